/-
  The program's Copy: a set of the same coins.
-/
import Derived.Test.YtnmfjnfdnjjngaaGreatDoorMLay
import Derived.BigRegion
import Derived.Deep.RegionWith
namespace Go.Proofs.YtnmfjnfdnjjngaaGreatDoor.Co
open Go.RowKit
set_option maxRecDepth 100000

theorem clone_any (b : Nat) (l : List EnD) (W : World) (h : MapIs W b l) :
    Calls Tryz.prog 40 #[.map (some b)] W fun e w' => e = .returned (.map (some W.heap.size)) ∧ MapIs w' W.heap.size l ∧ Below W.heap.size W w' ∧ w'.heap.size = W.heap.size + 1 := by
  obtain ⟨es, clock, hb, r⟩ := h
  refine (AnyW.maps_Clone cloneL b es clock W hb).mono fun e w' ⟨he, hw⟩ => ?_
  subst hw
  exact ⟨he, ⟨es, clock, heap_alloc_new _ _, r⟩, (Below.refl _ _).alloc (Nat.le_refl _) _, by simp⟩

set_option maxHeartbeats 1000000 in
theorem copy_any (a b : Nat) (l : List EnD) (w : World) (h : SetIs w a b l) :
    Calls Tryz.prog 22 #[.pointer (some ⟨a, 0, none⟩)] w fun e w' => e = .returned (.pointer (some ⟨w.heap.size + 1, 0, none⟩)) ∧ SetIs w' (w.heap.size + 1) w.heap.size l ∧ Below w.heap.size w w' := by
  have la := h.lta
  have c0 := h.cell0
  have c1 := h.cell1
  have CL0 := clone_any b l w.drew h.map
  have HS := Lib.hid h
  obtain ⟨t, ht⟩ : ∃ t, t = tot l := ⟨_, rfl⟩
  rw [← ht] at c1
  have HT := Lib.hid ht
  have CL := Lib.hid (show Calls Tryz.prog 40 #[.map (some b)] w.drew fun e w' => e = .returned (.map (some w.heap.size)) ∧ w'.cell? ⟨a, 1, none⟩ = some (.int .i64 t) ∧ w'.heap.size = w.heap.size + 1 ∧ Hid (MapIs w' w.heap.size l) ∧ Hid (Below w.heap.size w w') from
    CL0.mono fun e w' ⟨he, hm, hb, hz⟩ => ⟨he, (World.cell?_of_block (w := w) (hb.block a la)).trans c1, hz, Lib.hid hm, Lib.hid ⟨hb.os, hb.tape, hb.output, hb.size, hb.block⟩⟩)
  clear h ht CL0
  go_enter Tryz.func22, Tryz.ntmps22
  go_wp2_with fail
  go_region_with (go_at_call 40; refine CL.out.mono ?_; rintro e w4 ⟨rfl, c1', hz, HM, HB⟩)
  all_goals go_wp2_with fail
  all_goals go_ret
  all_goals
    refine ⟨rfl, ⟨by omega, ?_, HM.out.keep (Below.heap_alloc _ _ _ (by omega)), HS.out.good⟩, HB.out.alloc (by omega) _⟩
    rw [← HT.out, ← hz]
    exact heap_alloc_new _ _

end Go.Proofs.YtnmfjnfdnjjngaaGreatDoor.Co
