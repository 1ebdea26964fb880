/-
  What a transaction is: a grant, what it spends; the grant of a block.
-/
import Derived.Test.YtmabfccieoaalaaCheck
import Derived.Test.YtmabfccieoaalaaShut
import Derived.Deep.RegionHeld3
import Derived.Deep.RegionWith
import Derived.Deep.DeepCutAuto
namespace Go.Proofs.Ytmabfccieoaalaa
open Go.RowKit

/-- Is it a grant? -/
def isBase : List InD → Bool
  | [x] => baseB x.id x.ix
  | _ => false
theorem isBase_len {xs : List InD} (h : xs.length ≠ 1) : isBase xs = false := by
  match xs, h with
  | [], _ => rfl
  | [_], h => simp at h
  | _ :: _ :: _, _ => rfl

/-- Four cells of a block, stored one behind the other. -/
def put4 (w : World) (g : Nat) (v0 v1 v2 v3 : Value) : World := (((w.setCell ⟨g, 0, none⟩ v0).setCell ⟨g, 1, none⟩ v1).setCell ⟨g, 2, none⟩ v2).setCell ⟨g, 3, none⟩ v3
theorem put4_kept {w : World} {lo hi g : Nat} (h : g < lo ∨ hi ≤ g) (v0 v1 v2 v3 : Value) : Kept lo hi w (put4 w g v0 v1 v2 v3) :=
  (((Kept.setCell (p := ⟨g, 0, none⟩) h v0).trans (Kept.setCell (p := ⟨g, 1, none⟩) h v1)).trans (Kept.setCell (p := ⟨g, 2, none⟩) h v2)).trans (Kept.setCell (p := ⟨g, 3, none⟩) h v3)
theorem put4_below {a w : World} {B g : Nat} (h : Below B a w) (hg : B ≤ g) (v0 v1 v2 v3 : Value) : Below B a (put4 w g v0 v1 v2 v3) :=
  (((h.setCell (p := ⟨g, 0, none⟩) hg v0).setCell (p := ⟨g, 1, none⟩) hg v1).setCell (p := ⟨g, 2, none⟩) hg v2).setCell (p := ⟨g, 3, none⟩) hg v3
theorem put4_size (w : World) (g : Nat) (v0 v1 v2 v3 : Value) : (put4 w g v0 v1 v2 v3).heap.size = w.heap.size := by simp [put4, World.setCell]
theorem TxAt.put4 {w : World} {lo hi g : Nat} {vi vo : Value} {t : TxD} (h : TxAt w lo hi vi vo t) (hg : g < lo ∨ hi ≤ g) (v0 v1 v2 v3 : Value) : TxAt (put4 w g v0 v1 v2 v3) lo hi vi vo t := h.keep (put4_kept hg _ _ _ _)

/-- The grant of a block. -/
def grantD (height : Int) (xs : List OutD) : TxD := ⟨2, [⟨zeros, 4294967295, 4294967295, []⟩], xs, height % 4294967296⟩

theorem grant_ins {w1 w' : World} {B : Nat} (h1 : B ≤ w1.heap.size) (hb : Below (w1.heap.size + 1) (w1.alloc (.cells #[.string zeros, .int .u32 4294967295, .int .u32 4294967295, .slice none 0 0] 48)) w') (hz : w1.heap.size < w'.heap.size) :
    Ins w' B w'.heap.size (.slice (some ⟨w1.heap.size, 0, none⟩) 1 1) (grantD 0 []).ins := by
  refine ⟨_, 1, rfl, Nat.le_refl _, .inr ⟨w1.heap.size, 0, rfl, h1, hz, fun k x hx => ?_⟩⟩
  match k, hx with
  | 0, hx =>
    simp [grantD] at hx
    subst hx
    have f := fun o => hb.cell (p := ⟨w1.heap.size, o, none⟩) (by show w1.heap.size < w1.heap.size + 1; omega)
    exact ⟨(f 0).trans (by simp), (f 1).trans (by simp), (f 2).trans (by simp), .slice none 0 0, (f 3).trans (by simp), Strs.nil _ _ _⟩

/-- Where an output is spent. -/
def spendsD (xs : List InD) (a : ByteArray) (i : Int) : Int := idxOf (fun x => ptB x.id x.ix a i) xs

end Go.Proofs.Ytmabfccieoaalaa
