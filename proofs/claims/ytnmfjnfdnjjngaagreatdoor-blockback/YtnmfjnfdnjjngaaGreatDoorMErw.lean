/-
  Errors of a block: what errors.Is, errors.As, api.Code and api.Place say of them.
-/
import Derived.Test.YtnmfjnfdnjjngaaGreatDoorMWkq
import Derived.Test.YtnmfjnfdnjjngaaGreatDoorMIsp
import Derived.Test.YtnmfjnfdnjjngaaGreatDoorMRfe
namespace Go.Proofs.YtnmfjnfdnjjngaaGreatDoor
open Go.RowKit Go.Extern
set_option maxRecDepth 100000

set_option maxHeartbeats 1000000 in
/-- errors.Is of a Fault that wraps a Fault that wraps a number. -/
theorem is_fault2 (b o b2 o2 : Nat) (a f : Int) (w : World) (h0 : w.cell? ⟨b, o + 1, none⟩ = some (.iface 92 (.pointer (some ⟨b2, o2, none⟩)))) (h1 : w.cell? ⟨b2, o2 + 1, none⟩ = some (.iface 38 (.int .i64 a))) :
    Calls Tryz.prog 20 #[.iface 92 (.pointer (some ⟨b, o, none⟩)), .iface 38 (.int .i64 f)] w fun e w' => e = .returned (.bool (a == f)) ∧ w' = w := by
  have h8 := @run_callFunc_extern Tryz.prog 38 _ Extern.ReflectliteType.typeOf Tryz.func38 (by kernel_rfl) (by kernel_rfl) (by kernel_rfl) (by kernel_rfl)
  have h32 := @run_callFunc_extern Tryz.prog 201 _ (Extern.ReflectliteType.method fun t => do Extern.Rtype.noPackHeld "Comparable" t; pure (.bool (← typeInfo t).comparable)) Tryz.func201 (by kernel_rfl) (by kernel_rfl) (by kernel_rfl) (by kernel_rfl)
  have tT := esTypeOf
  have cT := esComparable
  have mR := esMethodComparable
  have nE := esNoIs
  have uE := esNoUnwrap
  have vE := esNoUnwraps
  have nF := esNoIsF
  have uF := esUnwrapF
  have mU := esMethodUnwrap
  have hty := run_eql_iface_types (P := Tryz.prog) 92 38 (.pointer (some ⟨b, o, none⟩)) (.int .i64 f) Tryz.underlying33 (by decide) w
  have hty2 := run_eql_iface_types (P := Tryz.prog) 92 38 (.pointer (some ⟨b2, o2, none⟩)) (.int .i64 f) Tryz.underlying33 (by decide) w
  have heq := eq_num a f
  cases hc : (a == f) <;> rw [hc] at heq <;> clear hc
  all_goals
    go_enter Tryz.func20, Tryz.ntmps20
    go_wp2
    refine wp_loop_rounds 3 ?_
    rw [rounds_succ]
    go_wp2
    rw [rounds_succ]
    go_wp2
    rw [rounds_succ]
    go_wp2
    go_ret
    exact ⟨rfl, rfl⟩

set_option maxHeartbeats 4000000 in
/-- errors.As of a Fault that wraps a Fault that wraps a number, at a number. -/
theorem as_fault2_e (b o b2 o2 : Nat) (e : Int) (t : Addr) (old : Value) (w : World) (hg : ErrDoor w) (ht0 : w.cell? t = some old) (hf0 : w.frozen? t = false) (hw0 : w.cell? ⟨b, o + 1, none⟩ = some (.iface 92 (.pointer (some ⟨b2, o2, none⟩)))) (hw1 : w.cell? ⟨b2, o2 + 1, none⟩ = some (.iface 38 (.int .i64 e))) :
    Calls Tryz.prog 35 #[.iface 92 (.pointer (some ⟨b, o, none⟩)), .iface 96 (.pointer (some t))] w fun ev w' => ev = .returned (.bool true) ∧ w' = ((((w.alloc (.cells #[.pointer (some t)] 96)).alloc (.cells #[.pointer (some ⟨3, 96, none⟩), .pointer (some ⟨w.heap.size, 0, none⟩), .int .u64 150] 140)).alloc (.cells #[.pointer (some ⟨3, 96, none⟩), .pointer (some ⟨w.heap.size, 0, none⟩), .int .u64 150] 140)).alloc (.cells #[.int .i64 e] 38)).setCell t (.int .i64 e) := by
  have h64 := @run_callFunc_extern Tryz.prog 63 _ (fun args => ReflectliteValue.unpack (args.getD 0 (.tuple #[]))) Tryz.func63 (by kernel_rfl) (by kernel_rfl) (by kernel_rfl) (by kernel_rfl)
  have h65 := @run_callFunc_extern Tryz.prog 64 _ (ReflectliteValue.methodAny (ReflectliteValue.valueError "reflectlite.Value.Type" 0) (fun t _ _ _ => ReflectliteType.toType t)) Tryz.func64 (by kernel_rfl) (by kernel_rfl) (by kernel_rfl) (by kernel_rfl)
  have h66 := @run_callFunc_extern Tryz.prog 65 _ (ReflectliteValue.method (ReflectliteValue.valueError "reflectlite.Value.IsNil" 0) ReflectliteValue.isNil) Tryz.func65 (by kernel_rfl) (by kernel_rfl) (by kernel_rfl) (by kernel_rfl)
  have h99 := @run_callFunc_extern Tryz.prog 190 _ (ReflectliteType.abiMethod fun t => do pure (.int .u8 (← Rtype.kind t))) Tryz.func190 (by kernel_rfl) (by kernel_rfl) (by kernel_rfl) (by kernel_rfl)
  have h108 := @run_callFunc_extern Tryz.prog 202 _ (ReflectliteType.method ReflectliteType.elem) Tryz.func202 (by kernel_rfl) (by kernel_rfl) (by kernel_rfl) (by kernel_rfl)
  have h109 := @run_callFunc_extern Tryz.prog 203 _ (ReflectliteType.relation "Implements" ReflectliteType.implements_) Tryz.func203 (by kernel_rfl) (by kernel_rfl) (by kernel_rfl) (by kernel_rfl)
  have h45 := @run_callFunc_extern Tryz.prog 38 _ ReflectliteType.typeOf Tryz.func38 (by kernel_rfl) (by kernel_rfl) (by kernel_rfl) (by kernel_rfl)
  have h106 := @run_callFunc_extern Tryz.prog 200 _ (ReflectliteType.relation "AssignableTo" ReflectliteType.assignableTo) Tryz.func200 (by kernel_rfl) (by kernel_rfl) (by kernel_rfl) (by kernel_rfl)
  have h80 := @run_callFunc_extern Tryz.prog 88 _ (ReflectliteValue.method (ReflectliteValue.valueError "reflectlite.Value.Elem" 0) ReflectliteValue.elem) Tryz.func88 (by kernel_rfl) (by kernel_rfl) (by kernel_rfl) (by kernel_rfl)
  have h81 := @run_callFunc_extern Tryz.prog 89 _ ReflectliteValue.set Tryz.func89 (by kernel_rfl) (by kernel_rfl) (by kernel_rfl) (by kernel_rfl)
  have mA := ea_methodAssignable
  have f6 := ea_valueOfTE
  have f7 := ea_typeTE
  have mK := ea_methodKind
  have mE := ea_methodElem
  have mI := ea_methodImplements
  have kT := ea_kindTE
  have kF := ea_kindFE
  have eT := ea_elemTE
  have iF := ea_implementsE
  have hlt := hg.lt
  unfold ErrDoor at hg
  have htl : t.block < w.heap.size := by
    rcases Nat.lt_or_ge t.block w.heap.size with h | h
    · exact h
    · simp [World.cell?, Array.getElem?_eq_none h] at ht0
  have tO := esTypeOf
  have tF := ea_typeOfF
  have aX := ea_assignX
  have nA := ea_noAsF
  have uF := esUnwrapF
  have mU := esMethodUnwrap
  have hwl0 : b < w.heap.size := World.block_lt_of_cell? w _ hw0
  have hv0 : (((w.alloc (.cells #[.pointer (some t)] 96)).alloc (.cells #[.pointer (some ⟨3, 96, none⟩), .pointer (some ⟨w.heap.size, 0, none⟩), .int .u64 150] 140)).alloc (.cells #[.pointer (some ⟨3, 96, none⟩), .pointer (some ⟨w.heap.size, 0, none⟩), .int .u64 150] 140)).cell? ⟨b, o + 1, none⟩ = some (.iface 92 (.pointer (some ⟨b2, o2, none⟩))) := by
    rw [World.cell?_alloc_lt _ _ ⟨b, o + 1, none⟩ (by simp; omega), World.cell?_alloc_lt _ _ ⟨b, o + 1, none⟩ (by simp; omega), World.cell?_alloc_lt _ _ ⟨b, o + 1, none⟩ hwl0]; exact hw0
  have hwl1 : b2 < w.heap.size := World.block_lt_of_cell? w _ hw1
  have hv1 : (((w.alloc (.cells #[.pointer (some t)] 96)).alloc (.cells #[.pointer (some ⟨3, 96, none⟩), .pointer (some ⟨w.heap.size, 0, none⟩), .int .u64 150] 140)).alloc (.cells #[.pointer (some ⟨3, 96, none⟩), .pointer (some ⟨w.heap.size, 0, none⟩), .int .u64 150] 140)).cell? ⟨b2, o2 + 1, none⟩ = some (.iface 38 (.int .i64 e)) := by
    rw [World.cell?_alloc_lt _ _ ⟨b2, o2 + 1, none⟩ (by simp; omega), World.cell?_alloc_lt _ _ ⟨b2, o2 + 1, none⟩ (by simp; omega), World.cell?_alloc_lt _ _ ⟨b2, o2 + 1, none⟩ hwl1]; exact hw1
  have aF := ea_assignFE
  have vF := ea_valueOfFE
  have n8 := ea_isNilE ⟨w.heap.size, 0, none⟩ t ((w.alloc (.cells #[.pointer (some t)] 96)).alloc (.cells #[.pointer (some ⟨3, 96, none⟩), .pointer (some ⟨w.heap.size, 0, none⟩), .int .u64 150] 140)) (by simp)
  have hg2 : ((w.alloc (.cells #[.pointer (some t)] 96)).alloc (.cells #[.pointer (some ⟨3, 96, none⟩), .pointer (some ⟨w.heap.size, 0, none⟩), .int .u64 150] 140)).cell? ⟨0, 0, none⟩ = some (.iface 150 (.agg #[.pointer (some ⟨3, 33, none⟩)])) := by
    rw [World.cell?_alloc_lt _ _ ⟨0, 0, none⟩ (by simp), World.cell?_alloc_lt _ _ ⟨0, 0, none⟩ hlt]; exact hg
  have el := ea_elemVE ⟨w.heap.size, 0, none⟩ t (((w.alloc (.cells #[.pointer (some t)] 96)).alloc (.cells #[.pointer (some ⟨3, 96, none⟩), .pointer (some ⟨w.heap.size, 0, none⟩), .int .u64 150] 140)).alloc (.cells #[.pointer (some ⟨3, 96, none⟩), .pointer (some ⟨w.heap.size, 0, none⟩), .int .u64 150] 140)) (by rw [World.cell?_alloc_lt _ _ ⟨w.heap.size, 0, none⟩ (by simp; omega)]; simp)
  have st := ea_setE t ⟨w.heap.size + 1 + 1 + 1, 0, none⟩ e old ((((w.alloc (.cells #[.pointer (some t)] 96)).alloc (.cells #[.pointer (some ⟨3, 96, none⟩), .pointer (some ⟨w.heap.size, 0, none⟩), .int .u64 150] 140)).alloc (.cells #[.pointer (some ⟨3, 96, none⟩), .pointer (some ⟨w.heap.size, 0, none⟩), .int .u64 150] 140)).alloc (.cells #[.int .i64 e] 38))
    (by rw [World.cell?_alloc_at _ _ _ _ (by simp)]; rfl)
    (by rw [World.cell?_alloc_lt _ _ t (by simp; omega), World.cell?_alloc_lt _ _ t (by simp; omega), World.cell?_alloc_lt _ _ t (by simp; omega), World.cell?_alloc_lt _ _ t htl]; exact ht0)
    (by rw [World.frozen?_alloc_old _ _ t (by simp; omega), World.frozen?_alloc_old _ _ t (by simp; omega), World.frozen?_alloc_old _ _ t (by simp; omega), World.frozen?_alloc_old _ _ t (Nat.ne_of_lt htl)]; exact hf0)
  go_enter Tryz.func35, Tryz.ntmps35
  go_wp2
  refine wp_loop_rounds 3 ?_
  rw [rounds_succ]
  go_wp2
  rw [rounds_succ]
  go_wp2
  rw [rounds_succ]
  go_wp2
  go_ret
  exact ⟨rfl, rfl⟩

set_option maxHeartbeats 1000000 in
/-- api.Code of a Fault that wraps a Fault that wraps a number. -/
theorem code_fault2 (b o b2 o2 : Nat) (a : Int) (w : World) (hg : ErrDoor w) (k0 : w.cell? ⟨b, o + 1, none⟩ = some (.iface 92 (.pointer (some ⟨b2, o2, none⟩)))) (h0 : w.cell? ⟨b2, o2 + 1, none⟩ = some (.iface 38 (.int .i64 a))) : Calls Tryz.prog 13 #[.iface 92 (.pointer (some ⟨b, o, none⟩))] w fun e w' => e = .returned (.int .i64 a) ∧ Below w.heap.size w w' := by
  obtain ⟨w1, hw1⟩ : ∃ w1, w1 = w.alloc (.cells #[.int .i64 0] 38) := ⟨_, rfl⟩
  have hz : w1.heap.size = w.heap.size + 1 := by rw [hw1]; simp
  have hb : Below w.heap.size w w1 := by rw [hw1]; exact (Below.refl _ _).alloc (Nat.le_refl _) _
  have hg1 := hg.below hb hg.lt
  have ht : w1.cell? ⟨w.heap.size, 0, none⟩ = some (.int .i64 0) := by rw [hw1]; simp
  have hf : w1.frozen? ⟨w.heap.size, 0, none⟩ = false := by rw [hw1]; exact Lib.frozen_of_heap (heap_alloc_new w (.cells #[.int .i64 0] 38)) 0
  have k1 : w1.cell? ⟨b, o + 1, none⟩ = some (.iface 92 (.pointer (some ⟨b2, o2, none⟩))) := (World.cell?_of_block (w := w) (a := ⟨b, o + 1, none⟩) (hb.block b (World.block_lt_of_cell? w _ k0))).trans k0
  have h1 : w1.cell? ⟨b2, o2 + 1, none⟩ = some (.iface 38 (.int .i64 a)) := (World.cell?_of_block (w := w) (a := ⟨b2, o2 + 1, none⟩) (hb.block b2 (World.block_lt_of_cell? w _ h0))).trans h0
  have C := Lib.hid (show Calls Tryz.prog 35 #[.iface 92 (.pointer (some ⟨b, o, none⟩)), .iface 96 (.pointer (some ⟨w.heap.size, 0, none⟩))] w1 fun ev w' => ev = .returned (.bool true) ∧ w'.cell? ⟨w.heap.size, 0, none⟩ = some (.int .i64 a) ∧ Hid (Below w.heap.size w w') from
    (as_fault2_e b o b2 o2 a ⟨w.heap.size, 0, none⟩ _ w1 hg1 ht hf k1 h1).mono fun ev w' ⟨he, hw⟩ => by
      have hB : Below w.heap.size w w' := by rw [hw]; exact ((((hb.alloc (by omega) _).alloc (by simp; omega) _).alloc (by simp; omega) _).alloc (by simp; omega) _).setCell (by simp) _
      refine ⟨he, ?_, Lib.hid hB⟩
      rw [hw]
      refine World.cell?_setCell_same _ _ _ (u := .int .i64 0) ?_
      rw [World.cell?_alloc_lt _ _ _ (by simp; omega), World.cell?_alloc_lt _ _ _ (by simp; omega), World.cell?_alloc_lt _ _ _ (by simp; omega), World.cell?_alloc_lt _ _ _ (by simp; omega)]
      exact ht)
  have HW := Lib.hid hw1
  clear hw1 hb hg1 ht hg hf h0 h1 k0 k1
  go_enter Tryz.func13, Tryz.ntmps13
  go_upto_region 2 with (fail)
  rw [show World.alloc w _ = w1 from HW.out.symm]
  go_wp2_with fail
  refine C.out.mono ?_
  rintro e w2 ⟨rfl, c0, hb2⟩
  go_wp2_with fail
  go_ret
  exact ⟨rfl, hb2.out⟩


/-! ### Whatever error it is -/

/-- errors.Is of a block's error, at a number. -/
theorem is_errw {lo : Nat} {w : World} {v : Value} {c a n : Int} (h : ErrW lo w v c a n) {f : Int} (hf : f ≠ 0) : Calls Tryz.prog 20 #[v, .iface 38 (.int .i64 f)] w fun e w' => e = .returned (.bool (c == f)) ∧ w' = w := by
  rcases h with ⟨rfl, _, _, rfl⟩ | ⟨_, _, _, rfl⟩ | ⟨hc, _, b, ve, rfl, _, _, _, h5, h7⟩
  · have hc : ((0 : Int) == f) = false := by simp; omega
    rw [hc]
    exact is_nil f w
  · exact is_num c f w
  · rcases h7 with ⟨rfl, _, _⟩ | ⟨_, _, rfl⟩ | ⟨_, _, b2, rfl, _, _, _, h6⟩
    · exact absurd rfl hc
    · exact is_fault b 0 c f w h5
    · exact is_fault2 b 0 b2 0 c f w h5 h6
/-- api.Code of a block's error. -/
theorem code_errw {lo : Nat} {w : World} {v : Value} {c a n : Int} (h : ErrW lo w v c a n) (hg : ErrDoor w) : Calls Tryz.prog 13 #[v] w fun e w' => e = .returned (.int .i64 c) ∧ Below w.heap.size w w' := by
  rcases h with ⟨rfl, _, _, rfl⟩ | ⟨_, _, _, rfl⟩ | ⟨hc, _, b, ve, rfl, _, _, _, h5, h7⟩
  · exact code_nil w
  · exact code_num c w hg
  · rcases h7 with ⟨rfl, _, _⟩ | ⟨_, _, rfl⟩ | ⟨_, _, b2, rfl, _, _, _, h6⟩
    · exact absurd rfl hc
    · exact code_fault b 0 c w hg h5
    · exact code_fault2 b 0 b2 0 c w hg h5 h6
/-- api.Place of a block's error. -/
theorem place_errw {lo : Nat} {w : World} {v : Value} {c a n : Int} (h : ErrW lo w v c a n) (hg : ErrDoor w) : Calls Tryz.prog 14 #[v] w fun e w' => e = .returned (.int .i64 a) ∧ Below w.heap.size w w' := by
  rcases h with ⟨_, rfl, _, rfl⟩ | ⟨_, rfl, _, rfl⟩ | ⟨_, _, b, ve, rfl, _, h3, h4, _, _⟩
  · exact place_nil w
  · exact place_num c w hg
  · exact place_fault b 0 a w hg h4 h3
theorem neq_nilnil (V : World) : (binOp .neq 33 .nilIface .nilIface).run Tryz.prog V = .ok (.bool false) V := by kernel_rfl
theorem neq_errW {lo : Nat} {w : World} {v : Value} {c a n : Int} (h : ErrW lo w v c a n) (V : World) : (binOp .neq 33 v .nilIface).run Tryz.prog V = .ok (.bool (c != 0)) V := by
  rcases h with ⟨rfl, _, _, rfl⟩ | ⟨hc, _, _, rfl⟩ | ⟨hc, _, b, ve, rfl, _⟩
  · exact neq_nilnil V
  · rw [show (c != 0) = true from by simp [hc]]
    exact neq_num _ V
  · rw [show (c != 0) = true from by simp [hc]]
    exact neq_fault _ V

end Go.Proofs.YtnmfjnfdnjjngaaGreatDoor