/-
  Are two inputs From the same output: the program's spendsTwice.
-/
import Derived.Test.YtjclklppnkoehaaGreatDoorMap
import Derived.Test.YtjclklppnkoehaaGreatDoorFind
import Derived.Test.YtjclklppnkoehaaGreatDoorEqual
import Derived.RegionTactic
import Derived.BigRegion
import Derived.Carry
namespace Go.Proofs.YtjclklppnkoehaaGreatDoor
open Go.RowKit
set_option maxRecDepth 100000

/-- Is a point counted more than once? -/
def moreB (n : Nat) : Bool := decide (1 < n)

theorem run_makeMap_hint {P : Program} (t k e : TypeId) (kd : IntKind) (n : Int) (ht : P.underlying t = some (.map k e)) (w : World) :
    (Instr.makeMap t (some (.int kd n))).run P w = .ok (.map (some w.heap.size)) (w.alloc (.map #[] 0)) := by
  simp [Instr.makeMap, run_underlying ht]; rfl

set_option maxHeartbeats 400000 in
theorem more_any (x : InD) (A : Option Addr) (n c : Nat) (g b : Nat) (xs : List InD) (w : World) (hx : x.Ok) (h0 : w.cell? ⟨g, 0, none⟩ = some (.map (some b))) (hm : MapIs w b xs) :
    Calls Tryz.prog 66 #[.agg #[.string x.id, .int .u32 x.ix, .int .u32 x.sq, .slice A n c], .pointer (some ⟨g, 0, none⟩)] w fun e w' => e = .returned (.bool (moreB (cnt xs x))) ∧ Below w.heap.size w w' := by
  have hg := lt_of_cell h0
  have hlook := fun o => (hm.keep (w' := w.alloc o) (Below.heap_alloc _ _ _ hm.lt)).look hx
  clear hm
  generalize cnt xs x = k at hlook ⊢
  go_enter Tryz.func66, Tryz.ntmps66
  go_wp2
  go_ret
  exact ⟨ret_bool (by unfold moreB; simp; omega), (Below.refl _ _).alloc (Nat.le_refl _) _⟩

/-- Is an output spent twice? -/
def twiceB (xs : List InD) : Bool := xs.any fun x => moreB (cnt xs x)

/-- A counter and a map, as the loop's head has them. -/
def CountHead (xs : List InD) (w : World) (g b gg : Nat) (s : Value) (wr : World) : Prop :=
  ∃ k : Nat, k ≤ xs.length ∧ xs.length - k ≤ gg ∧ s = .int .i64 k ∧ MapIs wr b (xs.take k) ∧ wr.cell? ⟨g, 0, none⟩ = some (.map (some b)) ∧ Below w.heap.size w wr

set_option maxHeartbeats 1000000 in
theorem twice_any (A : Option Addr) (n c : Nat) (xs : List InD) (w : World) (lo hi : Nat) (hx : Ins w lo hi (.slice A n c) xs) (hhi : hi ≤ w.heap.size) (hl : xs.length ≤ 512) (hok : ∀ x ∈ xs, x.Ok) :
    Calls Tryz.prog 43 #[.slice A n c] w fun e w' => e = .returned (.bool (twiceB xs)) ∧ Below w.heap.size w w' := by
  obtain rfl : n = xs.length := by obtain ⟨_, _, hv, _⟩ := hx; injection hv
  have HX := Lib.hid hx
  have HO := Lib.hid hok
  clear hx hok
  have hmm := fun (i : Int) (W : World) => run_makeMap_hint (P := Tryz.prog) 149 55 3 .i64 i Tryz.underlying149 W
  go_enter Tryz.func43, Tryz.ntmps43
  go_wp2_with fail
  go_loopg [5, 11] xs.length (fun gg _ s wr => CountHead xs w (w.heap.size + 1) w.heap.size gg s wr)
  case atStart =>
    refine ⟨0, Nat.zero_le _, by omega, rfl, ?_, by simp, ((Below.refl _ _).alloc (Nat.le_refl _) _).alloc (by simp) _⟩
    exact (MapIs.made w).keep (Below.heap_alloc _ _ _ (by simp))
  case round =>
    obtain ⟨k, hk, hg, rfl, hmap, hcell, BW⟩ := hrel
    have hsz : w.heap.size + 1 < wr.heap.size := lt_of_cell hcell
    have hs0 := BW.size
    have BW := Lib.hid BW
    by_cases hlt : k < xs.length
    · have hltz : (k : Int) < (xs.length : Int) := by omega
      have hd : decide (k < xs.length) = true := decide_eq_true hlt
      obtain ⟨x, hxk⟩ : ∃ x, xs[k]? = some x := ⟨_, List.getElem?_eq_getElem hlt⟩
      obtain ⟨b, off, rfl, h1, h2, c0, c1, c2, v, c3, hs⟩ := (HX.out.keep (Kept.of_below BW.out hhi)).at hxk
      obtain ⟨A1, m1, rfl, _, _⟩ := hs
      have hxo := HO.out x (List.mem_of_getElem? hxk)
      have hcn : cnt (xs.take k) x ≤ k := by unfold cnt; exact Nat.le_trans (List.countP_le_length) (by simp; omega)
      obtain ⟨W, hW⟩ : ∃ W, W = wr.alloc (.cells #[.string x.id, .int .u32 x.ix, .int .u32 x.sq, .slice A1 x.wit.length m1] 68) := ⟨_, rfl⟩
      have hmW : MapIs W w.heap.size (xs.take k) := by rw [hW]; exact hmap.keep (Below.heap_alloc _ _ _ (by omega))
      have hmd : MapIs W.drew w.heap.size (xs.take k) := hmW
      obtain ⟨st, w1, w2, r1, r2, r3, b1, b2, hm2⟩ := hmd.step hxo
      have r0 := hmd.look hxo
      have BB := Lib.hid (And.intro b1 (And.intro b2 hm2))
      have HXK := Lib.hid hxk
      have HW := Lib.hid hW
      have BWW : Below w.heap.size w W.drew := by rw [hW]; exact (BW.out.alloc hs0 _).drew
      have BWW := Lib.hid BWW
      have hcW : W.cell? ⟨w.heap.size + 1, 0, none⟩ = some (.map (some w.heap.size)) := by rw [hW]; rw [World.cell?_alloc_lt _ _ _ (by show w.heap.size + 1 < _; omega)]; exact hcell
      have HCW := Lib.hid hcW
      have hzW : W.heap.size = wr.heap.size + 1 := by rw [hW]; simp
      have HZW := Lib.hid hzW
      clear b1 b2 hm2 hxk hW hmW hmd hmap hcW hzW
      go_wp2_with fail
      rw [← HW.out]
      have q0 : W.cell? ⟨wr.heap.size, 0, none⟩ = some (.string x.id) := by rw [HW.out]; simp
      have q1 : W.cell? ⟨wr.heap.size, 1, none⟩ = some (.int .u32 x.ix) := by rw [HW.out]; simp
      have q2 := HCW.out
      generalize cnt (xs.take k) x = m at r0 r1 r2 r3 hcn
      have r3' : (Instr.entryStore 149 (.map (some w.heap.size)) (.int .i64 (st : Int)) (.int .i64 ((m : Int) + 1))).run Tryz.prog w1 = .ok () w2 := r3
      have hwr : IntKind.i64.wrap ((m : Int) + 1) = (m : Int) + 1 := IntWalk.i64_in _ (by omega)
      clear r3
      go_region
      all_goals go_wp2_with fail
      all_goals go_roundg (xs.length - (k + 1))
      case measure => omega
      case rel =>
        obtain ⟨b1, b2, hm2⟩ := BB.out
        refine ⟨k + 1, by omega, by omega, by go_num, ?_, ?_, But.below (But.below BWW.out b1 (Nat.le_refl _)) b2 (Nat.le_refl _)⟩
        · rw [List.take_succ_eq_append_getElem hlt]
          rw [show xs[k] = x from by have := HXK.out; rw [List.getElem?_eq_getElem hlt] at this; injection this]
          exact hm2
        · rw [b2.cell (by omega), b1.cell (by omega)]
          exact HCW.out
    · have hltz : ¬ (k : Int) < (xs.length : Int) := by omega
      obtain rfl : k = xs.length := by omega
      rw [List.take_length] at hmap
      have HM := Lib.hid hmap
      clear hmap
      have eg : ∀ args w, (callFunc 66 args).run Tryz.prog w = .ok (.enter 66 args) w := enters_of Tryz.func66 (by kernel_rfl) rfl
      go_wp2_with fail
      refine (has_in 66 #[.pointer (some ⟨w.heap.size + 1, 0, none⟩)] eg (fun x => moreB (cnt xs x)) A xs.length c xs wr lo hi (HX.out.keep (Kept.of_below BW.out hhi)) (by omega) hl ?_).mono ?_
      · intro W x A1 n1 c1 hx hb hs
        exact more_any x A1 n1 c1 _ w.heap.size xs W (HO.out x hx) ((hb.cell (by show w.heap.size + 1 < _; omega)).trans hcell) (HM.out.keep (hb.block _ (by omega)))
      rintro e w' ⟨rfl, hb'⟩
      go_wp2_with fail
      go_ret
      exact ⟨rfl, below_next BW.out hs0 hb'⟩

end Go.Proofs.YtjclklppnkoehaaGreatDoor
