/-
  What a transaction is: a grant, what it spends; the grant of a block.
-/
import Derived.Test.YtjclklppnkoehaaGreatDoorCheck
import Derived.Test.YtjclklppnkoehaaGreatDoorShut
import Derived.Deep.RegionHeld3
import Derived.Deep.RegionWith
import Derived.Deep.DeepCutAuto
namespace Go.Proofs.YtjclklppnkoehaaGreatDoor
open Go.RowKit
set_option maxRecDepth 100000

/-- Is it a grant? -/
def isBase : List InD → Bool
  | [x] => baseB x.id x.ix
  | _ => false
theorem isBase_len {xs : List InD} (h : xs.length ≠ 1) : isBase xs = false := by
  match xs, h with
  | [], _ => rfl
  | [_], h => simp at h
  | _ :: _ :: _, _ => rfl

set_option maxHeartbeats 1000000 in
theorem base_any (t : TxD) (vi vo : Value) (w : World) (lo hi : Nat) (ht : Ins w lo hi vi t.ins) (hhi : hi ≤ w.heap.size) :
    Calls Tryz.prog 20 #[.agg #[.int .u32 t.ver, vi, vo, .int .u32 t.lock]] w fun e w' => e = .returned (.bool (isBase t.ins)) ∧ Below w.heap.size w w' := by
  obtain ⟨tv, ti, tz, tl⟩ := t
  obtain ⟨A1, m1, rfl⟩ := ht.form
  have HT := Lib.hid ht
  simp only
  clear ht
  have heq := run_eql_pt
  have hgd := pt_guard
  have B0 := Lib.hid (fun o => (Below.refl w.heap.size w).alloc (Nat.le_refl _) o)
  by_cases h1 : ti.length = 1
  · obtain ⟨x, rfl⟩ : ∃ x, ti = [x] := by
      match ti, h1 with
      | [x], _ => exact ⟨x, rfl⟩
    obtain ⟨b, off, rfl, g1, g2, c0, c1, c2, v, c3, hs⟩ := HT.out.at (k := 0) (x := x) rfl
    simp only [Nat.zero_mul, Nat.add_zero] at c0 c1
    have hbw : b < w.heap.size := by omega
    have E := Lib.hid (show isBase [x] = ptB x.id x.ix zeros 4294967295 from rfl)
    have hl1 : (([x].length : Nat) : Int) = 1 := rfl
    generalize [x].length = n at HT h1 hl1
    subst h1
    go_enter Tryz.func20, Tryz.ntmps20
    go_wp2_with fail
    go_region_held3 (fun w' => w'.cell? ⟨w.heap.size, 1, none⟩ = some (.slice (some ⟨b, off, none⟩) 1 m1) ∧ w'.cell? ⟨b, off, none⟩ = some (.string x.id) ∧ w'.cell? ⟨b, off + 1, none⟩ = some (.int .u32 x.ix))
      (go_keep)
      (first | (go_at_call 44; refine (base_point _).mono ?_; rintro e w1 ⟨rfl, hB1⟩; have e1 := hB1.cell (p := ⟨w.heap.size, 1, none⟩) (by simp); have e2 := hB1.cell (p := ⟨b, off, none⟩) (by simp; omega); have e3 := hB1.cell (p := ⟨b, off + 1, none⟩) (by simp; omega)))
    go_wp2_with fail
    go_ret
    refine ⟨ret_bool E.out.symm, ?_⟩
    first | exact below_next (B0.out _).drew (by simp) hB1 | exact (below_next (B0.out _) (by simp) hB1).drew
  · have E := Lib.hid (isBase_len h1)
    have e1 : ((ti.length : Int) == 1) = false := by simp; omega
    have H1 := Lib.hid h1
    clear h1
    go_enter Tryz.func20, Tryz.ntmps20
    go_wp2_with fail
    go_quiet (fail)
    go_wp2_with fail
    go_ret
    exact ⟨ret_bool E.out.symm, below_drewN (B0.out _) _⟩

/-- Four cells of a block, stored one behind the other. -/
def put4 (w : World) (g : Nat) (v0 v1 v2 v3 : Value) : World := (((w.setCell ⟨g, 0, none⟩ v0).setCell ⟨g, 1, none⟩ v1).setCell ⟨g, 2, none⟩ v2).setCell ⟨g, 3, none⟩ v3
theorem put4_kept {w : World} {lo hi g : Nat} (h : g < lo ∨ hi ≤ g) (v0 v1 v2 v3 : Value) : Kept lo hi w (put4 w g v0 v1 v2 v3) :=
  (((Kept.setCell (p := ⟨g, 0, none⟩) h v0).trans (Kept.setCell (p := ⟨g, 1, none⟩) h v1)).trans (Kept.setCell (p := ⟨g, 2, none⟩) h v2)).trans (Kept.setCell (p := ⟨g, 3, none⟩) h v3)
theorem put4_below {a w : World} {B g : Nat} (h : Below B a w) (hg : B ≤ g) (v0 v1 v2 v3 : Value) : Below B a (put4 w g v0 v1 v2 v3) :=
  (((h.setCell (p := ⟨g, 0, none⟩) hg v0).setCell (p := ⟨g, 1, none⟩) hg v1).setCell (p := ⟨g, 2, none⟩) hg v2).setCell (p := ⟨g, 3, none⟩) hg v3
theorem put4_size (w : World) (g : Nat) (v0 v1 v2 v3 : Value) : (put4 w g v0 v1 v2 v3).heap.size = w.heap.size := by simp [put4, World.setCell]
theorem TxAt.put4 {w : World} {lo hi g : Nat} {vi vo : Value} {t : TxD} (h : TxAt w lo hi vi vo t) (hg : g < lo ∨ hi ≤ g) (v0 v1 v2 v3 : Value) : TxAt (put4 w g v0 v1 v2 v3) lo hi vi vo t := h.keep (put4_kept hg _ _ _ _)

/-- The grant of a block. -/
def grantD (height : Int) (xs : List OutD) : TxD := ⟨2, [⟨zeros, 4294967295, 4294967295, []⟩], xs, height % 4294967296⟩

theorem grant_ins {w1 w' : World} {B : Nat} (h1 : B ≤ w1.heap.size) (hb : Below (w1.heap.size + 1) (w1.alloc (.cells #[.string zeros, .int .u32 4294967295, .int .u32 4294967295, .slice none 0 0] 68)) w') (hz : w1.heap.size < w'.heap.size) :
    Ins w' B w'.heap.size (.slice (some ⟨w1.heap.size, 0, none⟩) 1 1) (grantD 0 []).ins := by
  refine ⟨_, 1, rfl, Nat.le_refl _, .inr ⟨w1.heap.size, 0, rfl, h1, hz, fun k x hx => ?_⟩⟩
  match k, hx with
  | 0, hx =>
    simp [grantD] at hx
    subst hx
    have f := fun o => hb.cell (p := ⟨w1.heap.size, o, none⟩) (by show w1.heap.size < w1.heap.size + 1; omega)
    exact ⟨(f 0).trans (by simp), (f 1).trans (by simp), (f 2).trans (by simp), .slice none 0 0, (f 3).trans (by simp), Strs.nil _ _ _⟩

/-- Where an output is spent. -/
def spendsD (xs : List InD) (a : ByteArray) (i : Int) : Int := idxOf (fun x => ptB x.id x.ix a i) xs

end Go.Proofs.YtjclklppnkoehaaGreatDoor
