/-
  The program's Put of a lock, and the document's.
-/
import Derived.Test.YtjclklppnkoehaaGreatDoorBrd
import Derived.Deep.RegionHeld3
import Derived.Deep.DeepCutAuto
import Derived.Deep.CutBlock
namespace Go.Proofs.YtjclklppnkoehaaGreatDoor
open Go.RowKit
set_option maxRecDepth 100000

theorem ptE_count {xs : List BrD} (h : xs.length < 1 ∨ 3 < xs.length) : ptE xs = 6 ∧ ptS xs = ⟨#[]⟩ := by
  have e : ptE xs = 6 := by unfold ptE; rw [if_pos h]
  exact ⟨e, by unfold ptS; rw [e, if_neg (by decide)]⟩
theorem ptE_high {xs : List BrD} (h : ¬ (xs.length < 1 ∨ 3 < xs.length)) (hh : xs.any highB = true) : ptE xs = 3 ∧ ptS xs = ⟨#[]⟩ := by
  have e : ptE xs = 3 := by unfold ptE; rw [if_neg h, if_pos hh]
  exact ⟨e, by unfold ptS; rw [e, if_neg (by decide)]⟩
theorem ptE_ok {xs : List BrD} (h : ¬ (xs.length < 1 ∨ 3 < xs.length)) (hh : xs.any highB = false) : ptE xs = 0 ∧ ptS xs = scr xs := by
  have e : ptE xs = 0 := by unfold ptE; rw [if_neg h, if_neg (by rw [hh]; decide)]
  exact ⟨e, by unfold ptS; rw [if_pos e]⟩

/-- Three texts of a branch, added behind s. -/
theorem adds (s a b c : ByteArray) (hs : s.size ≤ 100) (ha : a.size = 2) (hb : b.size = 2) (hc : c.size = 4) :
    (∀ W : World, (Op.stringOp .add a b).run Tryz.prog W = .ok (.string (a ++ b)) W) ∧ (∀ W : World, (Op.stringOp .add (a ++ b) c).run Tryz.prog W = .ok (.string (a ++ b ++ c)) W) ∧ (∀ W : World, (Op.stringOp .add s (a ++ b ++ c)).run Tryz.prog W = .ok (.string (s ++ (a ++ b ++ c))) W) :=
  ⟨fun W => run_string_add_sum (w := W) a b (by omega), fun W => run_string_add_sum (w := W) _ c (by rw [ByteArray.size_append]; omega), fun W => run_string_add_sum (w := W) s _ (by rw [ByteArray.size_append, ByteArray.size_append]; omega)⟩

end Go.Proofs.YtjclklppnkoehaaGreatDoor
