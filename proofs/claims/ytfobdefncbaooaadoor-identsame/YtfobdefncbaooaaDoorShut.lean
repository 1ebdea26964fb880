/-
  Copies of lists, read again.
  What a transaction is: a grant, what it spends; the grant of a block.
-/
import Derived.Test.YtfobdefncbaooaaDoorClone
import Derived.Test.YtfobdefncbaooaaDoorCheck
import Derived.Deep.RegionHeld3
import Derived.Deep.RegionWith
import Derived.Deep.DeepCutAuto

namespace Go.Proofs.YtfobdefncbaooaaDoor
open Go.RowKit

theorem Outs.source {w : World} {lo hi : Nat} {A : Option Addr} {n c : Nat} {xs : List OutD} (h : Outs w lo hi (.slice A n c) xs) :
    n = 0 ∨ ∃ b off, A = some ⟨b, off, none⟩ ∧ ∀ j, j < n * 2 → ∃ u, w.cell? ⟨b, off + j, none⟩ = some u ∧ u.oneCell' = true := by
  obtain ⟨A', c', hv, hc, h⟩ := h
  injection hv with hA hn
  subst hA hn
  rcases h with rfl | ⟨b, off, rfl, h1, h2, h⟩
  · exact .inl rfl
  · refine .inr ⟨b, off, rfl, fun j hj => ?_⟩
    obtain ⟨x, hx⟩ : ∃ x, xs[j / 2]? = some x := ⟨_, List.getElem?_eq_getElem (by omega)⟩
    obtain ⟨c0, c1⟩ := h _ x hx
    rcases Nat.mod_two_eq_zero_or_one j with e | e
    · rw [show off + j / 2 * 2 = off + j from by omega] at c0
      exact ⟨_, c0, rfl⟩
    · rw [show off + j / 2 * 2 + 1 = off + j from by omega] at c1
      exact ⟨_, c1, rfl⟩
theorem Strs.source {w : World} {lo hi : Nat} {A : Option Addr} {n c : Nat} {xs : List ByteArray} (h : Strs w lo hi (.slice A n c) xs) :
    n = 0 ∨ ∃ b off, A = some ⟨b, off, none⟩ ∧ ∀ j, j < n * 1 → ∃ u, w.cell? ⟨b, off + j, none⟩ = some u ∧ u.oneCell' = true := by
  obtain ⟨A', c', hv, hc, h⟩ := h
  injection hv with hA hn
  subst hA hn
  rcases h with rfl | ⟨b, off, rfl, h1, h2, h⟩
  · exact .inl rfl
  · refine .inr ⟨b, off, rfl, fun j hj => ?_⟩
    obtain ⟨x, hx⟩ : ∃ x, xs[j]? = some x := ⟨_, List.getElem?_eq_getElem (by omega)⟩
    exact ⟨_, h _ x hx, rfl⟩
theorem Ins.source {w : World} {lo hi : Nat} {A : Option Addr} {n c : Nat} {xs : List InD} (h : Ins w lo hi (.slice A n c) xs) :
    n = 0 ∨ ∃ b off, A = some ⟨b, off, none⟩ ∧ ∀ j, j < n * 4 → ∃ u, w.cell? ⟨b, off + j, none⟩ = some u ∧ u.oneCell' = true := by
  obtain ⟨A', c', hv, hc, h⟩ := h
  injection hv with hA hn
  subst hA hn
  rcases h with rfl | ⟨b, off, rfl, h1, h2, h⟩
  · exact .inl rfl
  · refine .inr ⟨b, off, rfl, fun j hj => ?_⟩
    obtain ⟨x, hx⟩ : ∃ x, xs[j / 4]? = some x := ⟨_, List.getElem?_eq_getElem (by omega)⟩
    obtain ⟨c0, c1, c2, v, c3, hs⟩ := h _ x hx
    obtain ⟨A1, m1, rfl, _⟩ := hs
    rcases (show j % 4 = 0 ∨ j % 4 = 1 ∨ j % 4 = 2 ∨ j % 4 = 3 from by omega) with e | e | e | e
    · rw [show off + j / 4 * 4 = off + j from by omega] at c0
      exact ⟨_, c0, rfl⟩
    · rw [show off + j / 4 * 4 + 1 = off + j from by omega] at c1
      exact ⟨_, c1, rfl⟩
    · rw [show off + j / 4 * 4 + 2 = off + j from by omega] at c2
      exact ⟨_, c2, rfl⟩
    · rw [show off + j / 4 * 4 + 3 = off + j from by omega] at c3
      exact ⟨_, c3, rfl⟩

theorem Cloned.outs {w w' : World} {lo hi : Nat} {A : Option Addr} {n c : Nat} {v' : Value} {xs : List OutD} (h : Outs w lo hi (.slice A n c) xs) (hc : Cloned w A n 2 50 v' w') : Outs w' w.heap.size w'.heap.size v' xs := by
  obtain ⟨A', c', hv, hcc, h⟩ := h
  injection hv with hA hn
  subst hA hn
  rcases hc with ⟨h0, A1, c1, rfl⟩ | ⟨b, off, g, cap, cur, rfl, rfl, hle, h1, h2, _, _, hcell⟩
  · have : xs = [] := List.eq_nil_of_length_eq_zero h0
    subst this
    exact ⟨A1, c1, rfl, by simp, .inl rfl⟩
  · refine ⟨_, cap, rfl, hle, ?_⟩
    rcases h with h | ⟨b', off', hA, _, _, h⟩
    · exact .inl h
    · injection hA with hA
      injection hA with e1 e2
      subst e1 e2
      refine .inr ⟨g, 0, rfl, h1, h2, fun k x hx => ?_⟩
      have hk := (List.getElem?_eq_some_iff.1 hx).1
      obtain ⟨c0, c1⟩ := h k x hx
      rw [Nat.zero_add]
      exact ⟨(hcell _ (by omega)).trans c0, (hcell _ (by omega)).trans c1⟩
theorem Cloned.strs {w w' : World} {lo hi : Nat} {A : Option Addr} {n c : Nat} {v' : Value} {xs : List ByteArray} (h : Strs w lo hi (.slice A n c) xs) (hc : Cloned w A n 1 9 v' w') : Strs w' w.heap.size w'.heap.size v' xs := by
  obtain ⟨A', c', hv, hcc, h⟩ := h
  injection hv with hA hn
  subst hA hn
  rcases hc with ⟨h0, A1, c1, rfl⟩ | ⟨b, off, g, cap, cur, rfl, rfl, hle, h1, h2, _, _, hcell⟩
  · have : xs = [] := List.eq_nil_of_length_eq_zero h0
    subst this
    exact ⟨A1, c1, rfl, by simp, .inl rfl⟩
  · refine ⟨_, cap, rfl, hle, ?_⟩
    rcases h with h | ⟨b', off', hA, _, _, h⟩
    · exact .inl h
    · injection hA with hA
      injection hA with e1 e2
      subst e1 e2
      refine .inr ⟨g, 0, rfl, h1, h2, fun k x hx => ?_⟩
      have hk := (List.getElem?_eq_some_iff.1 hx).1
      rw [Nat.zero_add]
      exact (hcell _ (by omega)).trans (h k x hx)

end Go.Proofs.YtfobdefncbaooaaDoor

namespace Go.Proofs.YtfobdefncbaooaaDoor
open Go.RowKit

/-- Is it a grant? -/
def isBase : List InD → Bool
  | [x] => baseB x.id x.ix
  | _ => false
theorem isBase_len {xs : List InD} (h : xs.length ≠ 1) : isBase xs = false := by
  match xs, h with
  | [], _ => rfl
  | [_], h => simp at h
  | _ :: _ :: _, _ => rfl

/-- Four cells of a block, stored one behind the other. -/
def put4 (w : World) (g : Nat) (v0 v1 v2 v3 : Value) : World := (((w.setCell ⟨g, 0, none⟩ v0).setCell ⟨g, 1, none⟩ v1).setCell ⟨g, 2, none⟩ v2).setCell ⟨g, 3, none⟩ v3
theorem put4_kept {w : World} {lo hi g : Nat} (h : g < lo ∨ hi ≤ g) (v0 v1 v2 v3 : Value) : Kept lo hi w (put4 w g v0 v1 v2 v3) :=
  (((Kept.setCell (p := ⟨g, 0, none⟩) h v0).trans (Kept.setCell (p := ⟨g, 1, none⟩) h v1)).trans (Kept.setCell (p := ⟨g, 2, none⟩) h v2)).trans (Kept.setCell (p := ⟨g, 3, none⟩) h v3)
theorem put4_below {a w : World} {B g : Nat} (h : Below B a w) (hg : B ≤ g) (v0 v1 v2 v3 : Value) : Below B a (put4 w g v0 v1 v2 v3) :=
  (((h.setCell (p := ⟨g, 0, none⟩) hg v0).setCell (p := ⟨g, 1, none⟩) hg v1).setCell (p := ⟨g, 2, none⟩) hg v2).setCell (p := ⟨g, 3, none⟩) hg v3
theorem put4_size (w : World) (g : Nat) (v0 v1 v2 v3 : Value) : (put4 w g v0 v1 v2 v3).heap.size = w.heap.size := by simp [put4, World.setCell]
theorem TxAt.put4 {w : World} {lo hi g : Nat} {vi vo : Value} {t : TxD} (h : TxAt w lo hi vi vo t) (hg : g < lo ∨ hi ≤ g) (v0 v1 v2 v3 : Value) : TxAt (put4 w g v0 v1 v2 v3) lo hi vi vo t := h.keep (put4_kept hg _ _ _ _)

/-- The grant of a block. -/
def grantD (height : Int) (xs : List OutD) : TxD := ⟨2, [⟨zeros, 4294967295, 4294967295, []⟩], xs, height % 4294967296⟩

theorem grant_ins {w1 w' : World} {B : Nat} (h1 : B ≤ w1.heap.size) (hb : Below (w1.heap.size + 1) (w1.alloc (.cells #[.string zeros, .int .u32 4294967295, .int .u32 4294967295, .slice none 0 0] 47)) w') (hz : w1.heap.size < w'.heap.size) :
    Ins w' B w'.heap.size (.slice (some ⟨w1.heap.size, 0, none⟩) 1 1) (grantD 0 []).ins := by
  refine ⟨_, 1, rfl, Nat.le_refl _, .inr ⟨w1.heap.size, 0, rfl, h1, hz, fun k x hx => ?_⟩⟩
  match k, hx with
  | 0, hx =>
    simp [grantD] at hx
    subst hx
    have f := fun o => hb.cell (p := ⟨w1.heap.size, o, none⟩) (by show w1.heap.size < w1.heap.size + 1; omega)
    exact ⟨(f 0).trans (by simp), (f 1).trans (by simp), (f 2).trans (by simp), .slice none 0 0, (f 3).trans (by simp), Strs.nil _ _ _⟩

set_option maxHeartbeats 1000000 in
theorem grant_any (height : Int) (vo : Value) (xs : List OutD) (w : World) (lo hi : Nat) (ho : Outs w lo hi vo xs) (hhi : hi ≤ w.heap.size) (hl : xs.length ≤ 512) :
    Calls Tryd.prog 31 #[.int .i64 height, vo] w fun e w' => ∃ vi' vo', e = .returned (.agg #[.int .u32 2, vi', vo', .int .u32 (height % 4294967296)]) ∧ TxAt w' w.heap.size w'.heap.size vi' vo' (grantD height xs) ∧ Below w.heap.size w w' := by
  obtain ⟨A, c, rfl⟩ := ho.form
  have HO := Lib.hid ho
  clear ho
  have B0 := Lib.hid (fun o => (Below.refl w.heap.size w).alloc (Nat.le_refl _) o)
  go_enter Tryd.func31, Tryd.ntmps31
  go_wp2_with fail
  refine (base_point _).mono ?_
  rintro e w1 ⟨rfl, hb1⟩
  have z1 : w.heap.size + 1 ≤ w1.heap.size := by have := hb1.size; simp at this; exact this
  have K1 := Lib.hid (below_next (B0.out _) (by simp) hb1)
  have HB1 := Lib.hid hb1
  clear hb1
  go_wp2_with fail
  have K2 := Lib.hid (fun o => K1.out.alloc (show w.heap.size ≤ w1.heap.size by omega) o)
  have hsrc := (HO.out.keep (Kept.of_below (K2.out (.cells #[.string zeros, .int .u32 4294967295, .int .u32 4294967295, .slice none 0 0] 47)) hhi))
  refine (clone_out A _ c _ hl hsrc.source).mono ?_
  rintro e w2 ⟨v', rfl, hcl, hb2⟩
  have hco := Lib.hid (hcl.outs hsrc)
  have z2 : w1.heap.size + 1 ≤ w2.heap.size := by have := hb2.size; simp at this; exact this
  have hb2' : Below (w1.heap.size + 1) (w1.alloc (.cells #[.string zeros, .int .u32 4294967295, .int .u32 4294967295, .slice none 0 0] 47)) w2 := by simpa using hb2
  have HB2 := Lib.hid hb2'
  have K3 := Lib.hid (below_next (K2.out _) (by simp; omega) hb2)
  clear hcl hb2 hb2' hsrc
  have hf : ∀ o, w2.cell? ⟨w.heap.size, o, none⟩ = (w.alloc (.cells #[.int .u32 0, .slice none 0 0, .slice none 0 0, .int .u32 0] 26)).cell? ⟨w.heap.size, o, none⟩ := fun o =>
    (HB2.out.cell (p := ⟨w.heap.size, o, none⟩) (by show w.heap.size < _; omega)).trans ((World.cell?_alloc_lt _ _ _ (by show w.heap.size < _; omega)).trans (HB1.out.cell (p := ⟨w.heap.size, o, none⟩) (by simp)))
  have hg : ∀ o, w2.frozen? ⟨w.heap.size, o, none⟩ = false := fun o =>
    (HB2.out.frozen (p := ⟨w.heap.size, o, none⟩) (by show w.heap.size < _; omega)).trans ((World.frozen?_alloc_past _ _ _ (by omega)).trans ((HB1.out.frozen (p := ⟨w.heap.size, o, none⟩) (by simp)).trans (by simp)))
  have f0 := (hf 0).trans (by simp : _ = some (Value.int .u32 0))
  have f1 := (hf 1).trans (by simp : _ = some (Value.slice none 0 0))
  have f2 := (hf 2).trans (by simp : _ = some (Value.slice none 0 0))
  have f3 := (hf 3).trans (by simp : _ = some (Value.int .u32 0))
  clear hf
  obtain ⟨A', c', rfl⟩ := hco.out.form
  go_wp2_with fail
  refine bodyPost_ret (v := .agg #[.int .u32 2, .slice (some ⟨w1.heap.size, 0, none⟩) 1 1, .slice A' xs.length c', .int .u32 (height % 4294967296)]) (by simp [results, Tryd.results31, go_sem, f0, f1, f2, f3]) rfl ?_
  have hT : TxAt w2 (w.heap.size + 1) w2.heap.size (.slice (some ⟨w1.heap.size, 0, none⟩) 1 1) (.slice A' xs.length c') (grantD height xs) :=
    ⟨grant_ins (by omega) HB2.out (by omega), hco.out.wide (by simp; omega) (Nat.le_refl _)⟩
  exact ⟨_, _, rfl, ((hT.put4 (g := w.heap.size) (.inl (by omega)) (.int .u32 2) (.slice (some ⟨w1.heap.size, 0, none⟩) 1 1) (.slice A' xs.length c') (.int .u32 (height % 4294967296))).wide (by omega) (Nat.le_of_eq (put4_size _ _ _ _ _ _).symm)), put4_below K3.out (Nat.le_refl _) _ _ _ _⟩

/-- Where an output is spent. -/
def spendsD (xs : List InD) (a : ByteArray) (i : Int) : Int := idxOf (fun x => ptB x.id x.ix a i) xs

end Go.Proofs.YtfobdefncbaooaaDoor
