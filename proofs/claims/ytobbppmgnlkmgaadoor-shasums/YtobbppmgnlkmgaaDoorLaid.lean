/-
  The package's two tables: what the rows say of them, as the walks want it; and a start at which it stands.
-/
import Derived.Test.YtobbppmgnlkmgaaDoorSwalk
import Derived.Lib.LaidTab
import Derived.LaidMore
import Derived.LaidHandle
import Derived.MakeChecks
import Derived.Stop.LaidErr
namespace Go.Proofs.YtobbppmgnlkmgaaDoor
open Go.RowKit

theorem gBegin : Tryd.prog.globalNamed "kedge/sha.beginning" = some 0 := by kernel_rfl
theorem gKeys : Tryd.prog.globalNamed "kedge/sha.keys" = some 1 := by kernel_rfl
theorem tBegin : (Tryd.prog.globals[0]?).map (·.type) = some 29 := by kernel_rfl
theorem tKeys : (Tryd.prog.globals[1]?).map (·.type) = some 37 := by kernel_rfl
theorem cells28 : Tryd.prog.cellsOf 28 = 1 := by kernel_rfl
theorem cells29 : Tryd.prog.cellsOf 29 = 8 := by kernel_rfl
theorem cells37 : Tryd.prog.cellsOf 37 = 64 := by kernel_rfl

/-- What the rows list. -/
def laid2 : List (String × DataW Unit) := [("kedge/sha.beginning", Rows.laid_kedge_sha_beginning), ("kedge/sha.keys", Rows.laid_kedge_sha_keys)]
theorem laid2_is : laid2 = [("kedge/sha.beginning", Lib.tabData .u32 start), ("kedge/sha.keys", Lib.tabData .u32 keys)] := rfl

theorem tab_of {W : World} {name : String} {g : Nat} {l : List Int} (hg : Tryd.prog.globalNamed name = some g) (h : Lib.TabIs Tryd.prog W name .u32 l) : Tab W g l := by
  unfold Lib.TabIs at h
  simp only [World.var?, hg, Option.bind_some] at h
  split at h
  · rename_i cs t fr hc
    cases h
    exact ⟨t, fr, hc⟩
  · cases h

/-- What the rows say of the tables, as the walks want it. -/
theorem tabs_of {W : World} (h : laidMetH Tryd.prog laid2 W) : Tabs W := by
  rw [MakeChecks.laidMetH_plain _ _ _ (by kernel_rfl), laid2_is] at h
  exact ⟨tab_of gBegin (Lib.tabIs_of_head gBegin tBegin Tryd.underlying29 Tryd.underlying28 cells28 cells29 h), tab_of gKeys (Lib.tabIs_of_head gKeys tKeys Tryd.underlying37 Tryd.underlying28 cells28 cells37 h.tail)⟩

/-- The heap that the program's own initialisers leave meets it. -/
theorem door_met (os : Os) (args : Array Value) : laidMetH Tryd.prog laid2 ((World.doorLaid Tryd.prog 19 os).forCall (fun _ _ => 0) ⟨#[], args, []⟩).memory :=
  laidMetH_of_parts3 (fuel := 8) (laidMet_of_run' 8 (by kernel_rfl) (by kernel_rfl)) (by kernel_rfl) (by kernel_rfl)
end Go.Proofs.YtobbppmgnlkmgaaDoor
