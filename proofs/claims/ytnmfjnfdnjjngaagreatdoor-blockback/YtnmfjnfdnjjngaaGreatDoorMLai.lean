/-
  The package-level variables that the rows list: what they say of them, as the walks want it; and a start at which they stand.
-/
import Derived.Test.YtnmfjnfdnjjngaaGreatDoorMWkp
import Derived.Test.YtnmfjnfdnjjngaaGreatDoorRows
import Derived.LaidHandle
import Derived.LaidMore
import Derived.LaidLaws
import Derived.Stop.Joined
import Derived.MakeChecks
import Derived.Lib.LaidTab
namespace Go.Proofs.YtnmfjnfdnjjngaaGreatDoor
open Go.RowKit
set_option maxRecDepth 100000

theorem gBegin : Tryz.prog.globalNamed "kedge/sha.beginning" = some 1 := by kernel_rfl
theorem gKeys : Tryz.prog.globalNamed "kedge/sha.keys" = some 2 := by kernel_rfl
theorem gErr : Tryz.prog.globalNamed "errors.errorType" = some 0 := by kernel_rfl
theorem tBegin : (Tryz.prog.globals[1]?).map (·.type) = some 217 := by kernel_rfl
theorem tKeys : (Tryz.prog.globals[2]?).map (·.type) = some 232 := by kernel_rfl
theorem cellsU : Tryz.prog.cellsOf 47 = 1 := by kernel_rfl
theorem cells8 : Tryz.prog.cellsOf 217 = 8 := by kernel_rfl
theorem cells64 : Tryz.prog.cellsOf 232 = 64 := by kernel_rfl
/-- What the rows list. -/
def laid3 : List (String × DataW Unit) := [("kedge/sha.beginning", Rows.laid_kedge_sha_beginning), ("kedge/sha.keys", Rows.laid_kedge_sha_keys), ("errors.errorType", Rows.laid_errors_errorType)]
theorem laid_plain : (laid3.filter fun x => x.2.handleName?.isNone) = [("kedge/sha.beginning", Lib.tabData .u32 Sh.start), ("kedge/sha.keys", Lib.tabData .u32 Sh.keys)] := rfl
theorem laid_handle : (laid3.filter fun x => x.2.handleName?.isSome) = [("errors.errorType", Rows.laid_errors_errorType)] := rfl
theorem tab_of {W : World} {name : String} {g : Nat} {l : List Int} (hg : Tryz.prog.globalNamed name = some g) (h : Lib.TabIs Tryz.prog W name .u32 l) : Sh.Tab W g l := by
  unfold Lib.TabIs at h
  simp only [World.var?, hg, Option.bind_some] at h
  split at h
  · rename_i cs t fr hc
    cases h
    exact ⟨t, fr, hc⟩
  · cases h
theorem rtErr : (Tryz.prog.cutTypes.find? (·.1 == "internal/reflectlite.rtype")).map (·.2) = some 150 := by kernel_rfl
theorem oneErr : ((List.range 290).filter fun t => Tryz.prog.rowNamed t [101, 114, 114, 111, 114]) = [33] := by kernel_rfl
theorem sizeErr : Tryz.prog.types.size = 290 := by kernel_rfl
/-- What the rows say of the variables, as the walks want it. -/
theorem dr_of {W : World} (h : laidMetH Tryz.prog laid3 W) : Dr W := by
  unfold laidMetH at h
  rw [laid_handle, laid_plain] at h
  obtain ⟨h1, h2⟩ := h
  refine ⟨?_, tab_of gBegin (Lib.tabIs_of_head gBegin tBegin Tryz.underlying217 Tryz.underlying47 cellsU cells8 h1), tab_of gKeys (Lib.tabIs_of_head gKeys tKeys Tryz.underlying232 Tryz.underlying47 cellsU cells64 h1.tail)⟩
  obtain ⟨name, u, ty, e1, e2, e3, e4, e5⟩ := h2 _ (List.mem_singleton.2 rfl)
  have en : name = [101, 114, 114, 111, 114] := (Option.some.inj e1).symm
  subst en
  obtain rfl := Option.some.inj (rtErr.symm.trans e2)
  have hm : ty ∈ (List.range 290).filter fun t => Tryz.prog.rowNamed t [101, 114, 114, 111, 114] := List.mem_filter.2 ⟨List.mem_range.2 (by rw [← sizeErr]; exact e3), e4⟩
  rw [oneErr] at hm
  obtain rfl := List.mem_singleton.1 hm
  have hh : typeHandle Tryz.prog 33 = .pointer (some ⟨3, 33, none⟩) := by kernel_rfl
  rw [hh] at e5
  unfold ErrDoor
  simpa using World.var?_cell gErr e5 0
/-- A world that meets the condition. -/
noncomputable def laidWorld (os : Os) : World :=
  let w0 := World.doorLaid Tryz.prog 26 os
  { w0 with heap := w0.heap.modify 0 fun
      | .cells _ t frozen => .cells #[.iface 150 (.agg #[.pointer (some ⟨3, 33, none⟩)])] t frozen
      | o => o }
theorem laidWorld_met (os : Os) (args : Array Value) : laidMetH Tryz.prog laid3 ((laidWorld os).forCall (fun _ _ => 0) ⟨#[], args, []⟩).memory :=
  laidMetH_of_parts (laidMet_of_run' 8 (by kernel_rfl) (by kernel_rfl)) (by kernel_rfl)

end Go.Proofs.YtnmfjnfdnjjngaaGreatDoor
