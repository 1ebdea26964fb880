/-
  The document's Fit: some transaction of few parts, each within its bounds, in memory of the call's own.
-/
import Derived.Test.YtnljicongmknhaaFmut
import Derived.Test.YtnljicongmknhaaIdn
import Derived.Test.YtnljicongmknhaaCwalk
import Derived.BigRegion
import Derived.StillTailTactics
import Derived.Deep.RegionWith
namespace Go.Proofs.Ytnljicongmknhaa
open Go.RowKit

/-- An input of the row, by its cells. -/
theorem FitI.get {w : World} {lo hi : Nat} {A : Option Addr} {n k : Nat} (h : FitI w lo hi A n) (hk : k < n) :
    ∃ g, A = some ⟨g, 0, none⟩ ∧ lo ≤ g ∧ g < hi ∧ (∀ o, w.frozen? ⟨g, o, none⟩ = false) ∧ (∃ s : ByteArray, w.cell? ⟨g, k * 4, none⟩ = some (.string s) ∧ s.size ≤ 64) ∧
      ∃ B m c, w.cell? ⟨g, k * 4 + 3, none⟩ = some (.slice B m c) ∧ m ≤ 8 ∧ m ≤ c ∧ MutS w lo hi 128 (.slice B m c) m := by
  rcases h with h | ⟨g, cur, rfl, h1, h2, hg, h⟩
  · omega
  · obtain ⟨a0, _, _, u, m, a3, hm, hs⟩ := h k hk
    obtain ⟨B, c, rfl, hc, hr⟩ := id hs
    exact ⟨g, rfl, h1, h2, fun o => free_of hg o, a0, B, m, c, a3, hm, hc, hs⟩
theorem FitI.at {w : World} {lo hi g : Nat} {n k : Nat} (h : FitI w lo hi (some ⟨g, 0, none⟩) n) (hk : k < n) :
    (∀ o, w.frozen? ⟨g, o, none⟩ = false) ∧ (∃ s : ByteArray, w.cell? ⟨g, k * 4, none⟩ = some (.string s) ∧ s.size ≤ 64) ∧
      ∃ B m c, w.cell? ⟨g, k * 4 + 3, none⟩ = some (.slice B m c) ∧ m ≤ 8 ∧ m ≤ c ∧ MutS w lo hi 128 (.slice B m c) m := by
  obtain ⟨g', hA, _, _, h⟩ := h.get hk
  injection hA with hA
  injection hA with e1
  subst e1
  exact h
theorem MutS.at {w : World} {lo hi M : Nat} {B : Option Addr} {m c j : Nat} (h : MutS w lo hi M (.slice B m c) m) (hj : j < m) :
    ∃ g cur, B = some ⟨g, 0, none⟩ ∧ lo ≤ g ∧ g < hi ∧ w.heap[g]? = some (.cells cur 9 (0, 0)) ∧ ∃ s : ByteArray, w.cell? ⟨g, j, none⟩ = some (.string s) ∧ s.size ≤ M := by
  obtain ⟨A, c', hv, hc, h⟩ := h
  injection hv with hA
  subst hA
  rcases h with h | ⟨g, cur, rfl, h1, h2, hg, h⟩
  · omega
  · exact ⟨g, cur, rfl, h1, h2, hg, h j hj⟩
theorem MutS.less {w : World} {lo hi M : Nat} {B : Option Addr} {m c m' : Nat} (h : MutS w lo hi M (.slice B m c) m) (hm : m' ≤ m) : MutS w lo hi M (.slice B m' c) m' := by
  obtain ⟨A, c', hv, hc, h⟩ := h
  injection hv with hA _ hc'
  subst hA hc'
  refine ⟨_, _, rfl, by omega, ?_⟩
  rcases h with h | ⟨g, cur, rfl, h1, h2, hg, h⟩
  · exact .inl (by omega)
  · exact .inr ⟨g, cur, rfl, h1, h2, hg, fun j hj => h j (by omega)⟩
theorem FitO.get {w : World} {lo hi : Nat} {A : Option Addr} {n k : Nat} (h : FitO w lo hi A n) (hk : k < n) :
    ∃ g cur, A = some ⟨g, 0, none⟩ ∧ lo ≤ g ∧ g < hi ∧ w.heap[g]? = some (.cells cur 52 (0, 0)) ∧ (∃ q, w.cell? ⟨g, k * 2, none⟩ = some (.int .i64 q) ∧ -9223372036854775808 ≤ q ∧ q ≤ 9223372036854775807) ∧ (∃ s : ByteArray, w.cell? ⟨g, k * 2 + 1, none⟩ = some (.string s) ∧ s.size ≤ 64) := by
  rcases h with h | ⟨g, cur, rfl, h1, h2, hg, h⟩
  · omega
  · exact ⟨g, cur, rfl, h1, h2, hg, h k hk⟩
theorem FitO.at {w : World} {lo hi g : Nat} {n k : Nat} (h : FitO w lo hi (some ⟨g, 0, none⟩) n) (hk : k < n) :
    ∃ cur, w.heap[g]? = some (.cells cur 52 (0, 0)) ∧ (∃ q, w.cell? ⟨g, k * 2, none⟩ = some (.int .i64 q) ∧ -9223372036854775808 ≤ q ∧ q ≤ 9223372036854775807) ∧ (∃ s : ByteArray, w.cell? ⟨g, k * 2 + 1, none⟩ = some (.string s) ∧ s.size ≤ 64) := by
  obtain ⟨g', cur, hA, _, _, h⟩ := h.get hk
  injection hA with hA
  injection hA with e1
  subst e1
  exact ⟨cur, h⟩
/-- A write to a block of another type leaves the outputs, or the inputs. -/
theorem FitO.past {w : World} {lo hi : Nat} {A : Option Addr} {n : Nat} (h : FitO w lo hi A n) {g o : Nat} {v : Value} {cur : Array Value} {e : TypeId} (hg : w.heap[g]? = some (.cells cur e (0, 0))) (he : e ≠ 52) : FitO (w.setCell ⟨g, o, none⟩ v) lo hi A n :=
  h.keep fun _ _ _ _ hb => Below.heap_setCell _ _ _ _ (blk_type hb hg (Ne.symm he))
theorem FitI.past {w : World} {lo hi : Nat} {A : Option Addr} {n : Nat} (h : FitI w lo hi A n) {g o : Nat} {v : Value} {cur : Array Value} {e : TypeId} (hg : w.heap[g]? = some (.cells cur e (0, 0))) (h1 : e ≠ 43) (h2 : e ≠ 9) : FitI (w.setCell ⟨g, o, none⟩ v) lo hi A n :=
  h.keep (fun _ _ _ _ hb => Below.heap_setCell _ _ _ _ (blk_type hb hg (Ne.symm h1))) (fun _ _ _ _ hb => Below.heap_setCell _ _ _ _ (blk_type hb hg (Ne.symm h2)))
theorem FitI.blk {w : World} {lo hi g n k : Nat} (h : FitI w lo hi (some ⟨g, 0, none⟩) n) (hk : k < n) : ∃ cur, w.heap[g]? = some (.cells cur 43 (0, 0)) := by
  rcases h with h | ⟨g', cur, hA, h1, h2, hg, h⟩
  · omega
  · injection hA with hA
    injection hA with e1
    subst e1
    exact ⟨cur, hg⟩

theorem FitT.setId {w : World} {tv tl : Int} {n m lo hi g k : Nat} {Ao : Option Addr} {ci co : Nat} {wr : World} (h : FitT w tv tl n m lo hi (some ⟨g, 0, none⟩) Ao ci co wr) (h1 : lo ≤ g) (h2 : g < hi) (hk : k < n) {s : ByteArray} (hs : s.size ≤ 64) : FitT w tv tl n m lo hi (some ⟨g, 0, none⟩) Ao ci co (wr.setCell ⟨g, k * 4, none⟩ (.string s)) := by
  obtain ⟨cur, hg⟩ := h.fi.blk hk
  exact h.write h1 h2 (h.fi.setId hs) (h.fo.past hg (by decide))
theorem FitT.setWit {w : World} {tv tl : Int} {n m lo hi g k : Nat} {Ao : Option Addr} {ci co : Nat} {wr : World} (h : FitT w tv tl n m lo hi (some ⟨g, 0, none⟩) Ao ci co wr) (h1 : lo ≤ g) (h2 : g < hi) (hk : k < n) {u : Value} {m' : Nat} (hm : m' ≤ 8) (hu : MutS wr lo hi 128 u m') : FitT w tv tl n m lo hi (some ⟨g, 0, none⟩) Ao ci co (wr.setCell ⟨g, k * 4 + 3, none⟩ u) := by
  obtain ⟨cur, hg⟩ := h.fi.blk hk
  exact h.write h1 h2 (h.fi.setWit hm hu) (h.fo.past hg (by decide))
theorem FitT.setStr {w : World} {tv tl : Int} {n m lo hi g j : Nat} {Ai Ao : Option Addr} {ci co : Nat} {wr : World} (h : FitT w tv tl n m lo hi Ai Ao ci co wr) (h1 : lo ≤ g) (h2 : g < hi) {cur : Array Value} (hg : wr.heap[g]? = some (.cells cur 9 (0, 0))) {s : ByteArray} (hs : s.size ≤ 128) : FitT w tv tl n m lo hi Ai Ao ci co (wr.setCell ⟨g, j, none⟩ (.string s)) :=
  h.write h1 h2 (h.fi.setStr hg hs) (h.fo.past hg (by decide))
theorem FitT.setVal {w : World} {tv tl : Int} {n m lo hi g k : Nat} {Ai : Option Addr} {ci co : Nat} {wr : World} (h : FitT w tv tl n m lo hi Ai (some ⟨g, 0, none⟩) ci co wr) (h1 : lo ≤ g) (h2 : g < hi) (hk : k < m) {q : Int} (hq : -9223372036854775808 ≤ q ∧ q ≤ 9223372036854775807) : FitT w tv tl n m lo hi Ai (some ⟨g, 0, none⟩) ci co (wr.setCell ⟨g, k * 2, none⟩ (.int .i64 q)) := by
  obtain ⟨cur, hg, _⟩ := h.fo.at hk
  exact h.write h1 h2 (h.fi.past hg (by decide) (by decide)) (h.fo.setVal hq)
theorem FitT.setScr {w : World} {tv tl : Int} {n m lo hi g k : Nat} {Ai : Option Addr} {ci co : Nat} {wr : World} (h : FitT w tv tl n m lo hi Ai (some ⟨g, 0, none⟩) ci co wr) (h1 : lo ≤ g) (h2 : g < hi) (hk : k < m) {s : ByteArray} (hs : s.size ≤ 64) : FitT w tv tl n m lo hi Ai (some ⟨g, 0, none⟩) ci co (wr.setCell ⟨g, k * 2 + 1, none⟩ (.string s)) := by
  obtain ⟨cur, hg, _⟩ := h.fo.at hk
  exact h.write h1 h2 (h.fi.past hg (by decide) (by decide)) (h.fo.setScr hs)

end Go.Proofs.Ytnljicongmknhaa
