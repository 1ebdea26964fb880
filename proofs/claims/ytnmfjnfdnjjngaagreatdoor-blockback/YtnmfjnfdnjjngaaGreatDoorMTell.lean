/-
  What a transaction is: a grant, what it spends; the grant of a block.
  The document's Cut: a transaction of not too many parts, none too long, in memory of the call's own.
-/
import Derived.Test.YtnmfjnfdnjjngaaGreatDoorMFind
import Derived.Test.YtnmfjnfdnjjngaaGreatDoorMPure
import Derived.Deep.RegionHeld3
import Derived.Deep.RegionWith
import Derived.Deep.DeepCutAuto
import Derived.Test.YtnmfjnfdnjjngaaGreatDoorMOwn

namespace Go.Proofs.YtnmfjnfdnjjngaaGreatDoor
open Go.RowKit
set_option maxRecDepth 100000

/-- Is it a grant? -/
def isBase : List InD → Bool
  | [x] => baseB x.id x.ix
  | _ => false
theorem isBase_len {xs : List InD} (h : xs.length ≠ 1) : isBase xs = false := by
  match xs, h with
  | [], _ => rfl
  | [_], h => simp at h
  | _ :: _ :: _, _ => rfl

set_option maxHeartbeats 1000000 in
theorem base_any (t : TxD) (vi vo : Value) (w : World) (lo hi : Nat) (ht : Ins w lo hi vi t.ins) (hhi : hi ≤ w.heap.size) :
    Calls Tryz.prog 29 #[.agg #[.int .u32 t.ver, vi, vo, .int .u32 t.lock]] w fun e w' => e = .returned (.bool (isBase t.ins)) ∧ Below w.heap.size w w' := by
  obtain ⟨tv, ti, tz, tl⟩ := t
  obtain ⟨A1, m1, rfl⟩ := ht.form
  have HT := Lib.hid ht
  simp only
  clear ht
  have heq := run_eql_pt
  have hgd := pt_guard
  have B0 := Lib.hid (fun o => (Below.refl w.heap.size w).alloc (Nat.le_refl _) o)
  by_cases h1 : ti.length = 1
  · obtain ⟨x, rfl⟩ : ∃ x, ti = [x] := by
      match ti, h1 with
      | [x], _ => exact ⟨x, rfl⟩
    obtain ⟨b, off, rfl, g1, g2, c0, c1, c2, v, c3, hs⟩ := HT.out.at (k := 0) (x := x) rfl
    simp only [Nat.zero_mul, Nat.add_zero] at c0 c1
    have hbw : b < w.heap.size := by omega
    have E := Lib.hid (show isBase [x] = ptB x.id x.ix zeros 4294967295 from rfl)
    have hl1 : (([x].length : Nat) : Int) = 1 := rfl
    generalize [x].length = n at HT h1 hl1
    subst h1
    go_enter Tryz.func29, Tryz.ntmps29
    go_wp2_with fail
    go_region_held3 (fun w' => w'.cell? ⟨w.heap.size, 1, none⟩ = some (.slice (some ⟨b, off, none⟩) 1 m1) ∧ w'.cell? ⟨b, off, none⟩ = some (.string x.id) ∧ w'.cell? ⟨b, off + 1, none⟩ = some (.int .u32 x.ix))
      (go_keep)
      (first | (go_at_call 49; refine (base_point _).mono ?_; rintro e w1 ⟨rfl, hB1⟩; have e1 := hB1.cell (p := ⟨w.heap.size, 1, none⟩) (by simp); have e2 := hB1.cell (p := ⟨b, off, none⟩) (by simp; omega); have e3 := hB1.cell (p := ⟨b, off + 1, none⟩) (by simp; omega)))
    go_wp2_with fail
    go_ret
    refine ⟨ret_bool E.out.symm, ?_⟩
    first | exact below_next (B0.out _).drew (by simp) hB1 | exact (below_next (B0.out _) (by simp) hB1).drew
  · have E := Lib.hid (isBase_len h1)
    have e1 : ((ti.length : Int) == 1) = false := by simp; omega
    have H1 := Lib.hid h1
    clear h1
    go_enter Tryz.func29, Tryz.ntmps29
    go_wp2_with fail
    go_quiet (fail)
    go_wp2_with fail
    go_ret
    exact ⟨ret_bool E.out.symm, below_drewN (B0.out _) _⟩

/-- Four cells of a block, stored one behind the other. -/
def put4 (w : World) (g : Nat) (v0 v1 v2 v3 : Value) : World := (((w.setCell ⟨g, 0, none⟩ v0).setCell ⟨g, 1, none⟩ v1).setCell ⟨g, 2, none⟩ v2).setCell ⟨g, 3, none⟩ v3
theorem put4_kept {w : World} {lo hi g : Nat} (h : g < lo ∨ hi ≤ g) (v0 v1 v2 v3 : Value) : Kept lo hi w (put4 w g v0 v1 v2 v3) :=
  (((Kept.setCell (p := ⟨g, 0, none⟩) h v0).trans (Kept.setCell (p := ⟨g, 1, none⟩) h v1)).trans (Kept.setCell (p := ⟨g, 2, none⟩) h v2)).trans (Kept.setCell (p := ⟨g, 3, none⟩) h v3)
theorem put4_below {a w : World} {B g : Nat} (h : Below B a w) (hg : B ≤ g) (v0 v1 v2 v3 : Value) : Below B a (put4 w g v0 v1 v2 v3) :=
  (((h.setCell (p := ⟨g, 0, none⟩) hg v0).setCell (p := ⟨g, 1, none⟩) hg v1).setCell (p := ⟨g, 2, none⟩) hg v2).setCell (p := ⟨g, 3, none⟩) hg v3
theorem put4_size (w : World) (g : Nat) (v0 v1 v2 v3 : Value) : (put4 w g v0 v1 v2 v3).heap.size = w.heap.size := by simp [put4, World.setCell]
theorem TxAt.put4 {w : World} {lo hi g : Nat} {vi vo : Value} {t : TxD} (h : TxAt w lo hi vi vo t) (hg : g < lo ∨ hi ≤ g) (v0 v1 v2 v3 : Value) : TxAt (put4 w g v0 v1 v2 v3) lo hi vi vo t := h.keep (put4_kept hg _ _ _ _)

/-- The grant of a block. -/
def grantD (height : Int) (xs : List OutD) : TxD := ⟨2, [⟨zeros, 4294967295, 4294967295, []⟩], xs, height % 4294967296⟩

theorem grant_ins {w1 w' : World} {B : Nat} (h1 : B ≤ w1.heap.size) (hb : Below (w1.heap.size + 1) (w1.alloc (.cells #[.string zeros, .int .u32 4294967295, .int .u32 4294967295, .slice none 0 0] 107)) w') (hz : w1.heap.size < w'.heap.size) :
    Ins w' B w'.heap.size (.slice (some ⟨w1.heap.size, 0, none⟩) 1 1) (grantD 0 []).ins := by
  refine ⟨_, 1, rfl, Nat.le_refl _, .inr ⟨w1.heap.size, 0, rfl, h1, hz, fun k x hx => ?_⟩⟩
  match k, hx with
  | 0, hx =>
    simp [grantD] at hx
    subst hx
    have f := fun o => hb.cell (p := ⟨w1.heap.size, o, none⟩) (by show w1.heap.size < w1.heap.size + 1; omega)
    exact ⟨(f 0).trans (by simp), (f 1).trans (by simp), (f 2).trans (by simp), .slice none 0 0, (f 3).trans (by simp), Strs.nil _ _ _⟩

set_option maxHeartbeats 1000000 in
theorem grant_any (height : Int) (vo : Value) (xs : List OutD) (w : World) (lo hi : Nat) (ho : Outs w lo hi vo xs) (hhi : hi ≤ w.heap.size) (hl : xs.length ≤ 512) :
    Calls Tryz.prog 37 #[.int .i64 height, vo] w fun e w' => ∃ vi' vo', e = .returned (.agg #[.int .u32 2, vi', vo', .int .u32 (height % 4294967296)]) ∧ TxAt w' w.heap.size w'.heap.size vi' vo' (grantD height xs) ∧ Below w.heap.size w w' := by
  obtain ⟨A, c, rfl⟩ := ho.form
  have HO := Lib.hid ho
  clear ho
  have B0 := Lib.hid (fun o => (Below.refl w.heap.size w).alloc (Nat.le_refl _) o)
  go_enter Tryz.func37, Tryz.ntmps37
  go_wp2_with fail
  refine (base_point _).mono ?_
  rintro e w1 ⟨rfl, hb1⟩
  have z1 : w.heap.size + 1 ≤ w1.heap.size := by have := hb1.size; simp at this; exact this
  have K1 := Lib.hid (below_next (B0.out _) (by simp) hb1)
  have HB1 := Lib.hid hb1
  clear hb1
  go_wp2_with fail
  have K2 := Lib.hid (fun o => K1.out.alloc (show w.heap.size ≤ w1.heap.size by omega) o)
  have hsrc := (HO.out.keep (Kept.of_below (K2.out (.cells #[.string zeros, .int .u32 4294967295, .int .u32 4294967295, .slice none 0 0] 107)) hhi))
  refine (clone_out A _ c _ hl hsrc.source).mono ?_
  rintro e w2 ⟨v', rfl, hcl, hb2⟩
  have hco := Lib.hid (hcl.outs hsrc)
  have z2 : w1.heap.size + 1 ≤ w2.heap.size := by have := hb2.size; simp at this; exact this
  have hb2' : Below (w1.heap.size + 1) (w1.alloc (.cells #[.string zeros, .int .u32 4294967295, .int .u32 4294967295, .slice none 0 0] 107)) w2 := by simpa using hb2
  have HB2 := Lib.hid hb2'
  have K3 := Lib.hid (below_next (K2.out _) (by simp; omega) hb2)
  clear hcl hb2 hb2' hsrc
  have hf : ∀ o, w2.cell? ⟨w.heap.size, o, none⟩ = (w.alloc (.cells #[.int .u32 0, .slice none 0 0, .slice none 0 0, .int .u32 0] 51)).cell? ⟨w.heap.size, o, none⟩ := fun o =>
    (HB2.out.cell (p := ⟨w.heap.size, o, none⟩) (by show w.heap.size < _; omega)).trans ((World.cell?_alloc_lt _ _ _ (by show w.heap.size < _; omega)).trans (HB1.out.cell (p := ⟨w.heap.size, o, none⟩) (by simp)))
  have hg : ∀ o, w2.frozen? ⟨w.heap.size, o, none⟩ = false := fun o =>
    (HB2.out.frozen (p := ⟨w.heap.size, o, none⟩) (by show w.heap.size < _; omega)).trans ((World.frozen?_alloc_past _ _ _ (by omega)).trans ((HB1.out.frozen (p := ⟨w.heap.size, o, none⟩) (by simp)).trans (by simp)))
  have f0 := (hf 0).trans (by simp : _ = some (Value.int .u32 0))
  have f1 := (hf 1).trans (by simp : _ = some (Value.slice none 0 0))
  have f2 := (hf 2).trans (by simp : _ = some (Value.slice none 0 0))
  have f3 := (hf 3).trans (by simp : _ = some (Value.int .u32 0))
  clear hf
  obtain ⟨A', c', rfl⟩ := hco.out.form
  go_wp2_with fail
  refine bodyPost_ret (v := .agg #[.int .u32 2, .slice (some ⟨w1.heap.size, 0, none⟩) 1 1, .slice A' xs.length c', .int .u32 (height % 4294967296)]) (by simp [results, Tryz.results37, go_sem, f0, f1, f2, f3]) rfl ?_
  have hT : TxAt w2 (w.heap.size + 1) w2.heap.size (.slice (some ⟨w1.heap.size, 0, none⟩) 1 1) (.slice A' xs.length c') (grantD height xs) :=
    ⟨grant_ins (by omega) HB2.out (by omega), hco.out.wide (by simp; omega) (Nat.le_refl _)⟩
  exact ⟨_, _, rfl, ((hT.put4 (g := w.heap.size) (.inl (by omega)) (.int .u32 2) (.slice (some ⟨w1.heap.size, 0, none⟩) 1 1) (.slice A' xs.length c') (.int .u32 (height % 4294967296))).wide (by omega) (Nat.le_of_eq (put4_size _ _ _ _ _ _).symm)), put4_below K3.out (Nat.le_refl _) _ _ _ _⟩

/-- Where an output is spent. -/
def spendsD (xs : List InD) (a : ByteArray) (i : Int) : Int := idxOf (fun x => ptB x.id x.ix a i) xs

end Go.Proofs.YtnmfjnfdnjjngaaGreatDoor

namespace Go.Proofs.YtnmfjnfdnjjngaaGreatDoor
open Go.RowKit
set_option maxRecDepth 100000

/-- A text, but at most n bytes of it. -/
def cutS (n : Nat) (s : ByteArray) : ByteArray := if n < s.size then s.extract 0 n else s
theorem cutS_cases (n : Nat) (s : ByteArray) : (n < s.size ∧ cutS n s = s.extract 0 n) ∨ (¬ n < s.size ∧ cutS n s = s) := by
  unfold cutS
  by_cases h : n < s.size
  · exact .inl ⟨h, if_pos h⟩
  · exact .inr ⟨h, if_neg h⟩
theorem cutS_size (n : Nat) (s : ByteArray) : (cutS n s).size ≤ n := by
  rcases cutS_cases n s with ⟨h, e⟩ | ⟨h, e⟩
  · rw [e, ByteArray.size_extract]; omega
  · rw [e]; omega
def cutIn (x : InD) : InD := ⟨cutS 40 x.id, x.ix, x.sq, (x.wit.take 6).map (cutS 90)⟩
def cutOut (x : OutD) : OutD := ⟨x.val, cutS 50 x.scr⟩
def cutTx (m : Nat) (t : TxD) : TxD := ⟨t.ver, (t.ins.take m).map cutIn, (t.outs.take m).map cutOut, t.lock⟩

theorem own_form {w : World} {base : Nat} {e : TypeId} {size n : Nat} {v : Value} {xs : List Value} (h : w.ownsRow base e size v n xs) : ∃ A c, v = .slice A n c := by
  rcases h.2 with ⟨rfl, rfl⟩ | ⟨g, cap, cur, rfl, _⟩
  · exact ⟨_, _, rfl⟩
  · exact ⟨_, _, rfl⟩

/-- A box of the call's own that may be written. -/
def Open (w : World) (b : Nat) (v0 v1 v2 v3 : Value) : Prop := Boxed w b v0 v1 v2 v3 ∧ ∀ o, w.frozen? ⟨b, o, none⟩ = false

theorem Open.new (w : World) (v0 v1 v2 v3 : Value) (t : TypeId) : Open (w.alloc (.cells #[v0, v1, v2, v3] t)) w.heap.size v0 v1 v2 v3 := ⟨Boxed.new _ _ _ _ _ _, fun o => by simp⟩
theorem Open.keep {w w' : World} {b : Nat} {v0 v1 v2 v3 : Value} (h : Open w b v0 v1 v2 v3) (hk : w'.heap[b]? = w.heap[b]?) : Open w' b v0 v1 v2 v3 := by
  obtain ⟨⟨a0, a1, a2, a3⟩, hf⟩ := h
  have e := fun o => World.cell?_of_block (w := w) (a := ⟨b, o, none⟩) hk
  exact ⟨⟨(e 0).trans a0, (e 1).trans a1, (e 2).trans a2, (e 3).trans a3⟩, fun o => (World.frozen?_of_block (w := w) (a := ⟨b, o, none⟩) hk).trans (hf o)⟩
theorem frozen_setCell (w : World) (p q : Addr) (u : Value) : (w.setCell p u).frozen? q = w.frozen? q := by
  by_cases h : q.block = p.block
  · unfold World.frozen? World.setCell
    simp only [Array.getElem?_modify, h]
    cases hb : w.heap[p.block]? with
    | none => simp
    | some o =>
      cases o <;> simp
  · exact World.frozen?_of_block (Below.heap_setCell _ _ _ _ h)
theorem Open.set0 {w : World} {b : Nat} {v0 v1 v2 v3 : Value} (h : Open w b v0 v1 v2 v3) (u : Value) : Open (w.setCell ⟨b, 0, none⟩ u) b u v1 v2 v3 := by
  obtain ⟨⟨a0, a1, a2, a3⟩, hf⟩ := h
  exact ⟨⟨World.cell?_setCell_same _ _ _ a0, (World.cell?_setCell_other _ _ _ _ (by simp)).trans a1, (World.cell?_setCell_other _ _ _ _ (by simp)).trans a2, (World.cell?_setCell_other _ _ _ _ (by simp)).trans a3⟩, fun o => (frozen_setCell _ _ _ _).trans (hf o)⟩
theorem Open.set1 {w : World} {b : Nat} {v0 v1 v2 v3 : Value} (h : Open w b v0 v1 v2 v3) (u : Value) : Open (w.setCell ⟨b, 1, none⟩ u) b v0 u v2 v3 := by
  obtain ⟨⟨a0, a1, a2, a3⟩, hf⟩ := h
  exact ⟨⟨(World.cell?_setCell_other _ _ _ _ (by simp)).trans a0, World.cell?_setCell_same _ _ _ a1, (World.cell?_setCell_other _ _ _ _ (by simp)).trans a2, (World.cell?_setCell_other _ _ _ _ (by simp)).trans a3⟩, fun o => (frozen_setCell _ _ _ _).trans (hf o)⟩
theorem Open.set2 {w : World} {b : Nat} {v0 v1 v2 v3 : Value} (h : Open w b v0 v1 v2 v3) (u : Value) : Open (w.setCell ⟨b, 2, none⟩ u) b v0 v1 u v3 := by
  obtain ⟨⟨a0, a1, a2, a3⟩, hf⟩ := h
  exact ⟨⟨(World.cell?_setCell_other _ _ _ _ (by simp)).trans a0, (World.cell?_setCell_other _ _ _ _ (by simp)).trans a1, World.cell?_setCell_same _ _ _ a2, (World.cell?_setCell_other _ _ _ _ (by simp)).trans a3⟩, fun o => (frozen_setCell _ _ _ _).trans (hf o)⟩
theorem Open.set3 {w : World} {b : Nat} {v0 v1 v2 v3 : Value} (h : Open w b v0 v1 v2 v3) (u : Value) : Open (w.setCell ⟨b, 3, none⟩ u) b v0 v1 v2 u := by
  obtain ⟨⟨a0, a1, a2, a3⟩, hf⟩ := h
  exact ⟨⟨(World.cell?_setCell_other _ _ _ _ (by simp)).trans a0, (World.cell?_setCell_other _ _ _ _ (by simp)).trans a1, (World.cell?_setCell_other _ _ _ _ (by simp)).trans a2, World.cell?_setCell_same _ _ _ a3⟩, fun o => (frozen_setCell _ _ _ _).trans (hf o)⟩
theorem Open.other {w : World} {b : Nat} {v0 v1 v2 v3 : Value} (h : Open w b v0 v1 v2 v3) {p : Addr} (hp : b ≠ p.block) (u : Value) : Open (w.setCell p u) b v0 v1 v2 v3 := h.keep (Below.heap_setCell _ _ _ _ hp)
theorem Open.below {w w' : World} {b B : Nat} {v0 v1 v2 v3 : Value} (h : Open w b v0 v1 v2 v3) (hb : Below B w w') (hB : b < B) : Open w' b v0 v1 v2 v3 := h.keep (hb.block b hB)

/-- Where Cut stands behind k inputs and l outputs. -/
structure CutState (w : World) (tv tl : Int) (ti : List InD) (tz : List OutD) (vi vo : Value) (k l : Nat) (vI vO : Value) (wr : World) : Prop where
  bt : Boxed wr w.heap.size (.int .u32 tv) vi vo (.int .u32 tl)
  br : Open wr (w.heap.size + 1) (.int .u32 0) (.slice none 0 0) (.slice none 0 0) (.int .u32 0)
  bu : Open wr (w.heap.size + 1 + 1) (.int .u32 tv) vI vO (.int .u32 tl)
  ins : InsOwn wr (w.heap.size + 3) wr.heap.size vI ((ti.take k).map cutIn)
  outs : OutsOwn wr (w.heap.size + 3) wr.heap.size vO ((tz.take l).map cutOut)
  bel : Below w.heap.size w wr
  le : w.heap.size + 3 ≤ wr.heap.size

/-- An input's copy, as the inner loop has it behind j texts: its box at bx, a Witness of its own. -/
structure CutX (wo : World) (bx : Nat) (id : ByteArray) (ix sq : Int) (ss : List ByteArray) (vW : Value) (wr : World) : Prop where
  box : Open wr bx (.string id) (.int .u32 ix) (.int .u32 sq) vW
  own : StrOwn wr (bx + 1) wr.heap.size vW ss
  bel : Below bx wo wr
  le : bx + 1 ≤ wr.heap.size

theorem four_new (w : World) (a b c d : Value) (t : TypeId) : ∀ j u, [a, b, c, d][j]? = some u → (w.alloc (.cells #[a, b, c, d] t)).cell? ((⟨w.heap.size, 0, none⟩ : Addr).add j) = some u := by
  intro j u hj
  rw [Addr.add_lit]
  match j, hj with
  | 0, hj => simp at hj; subst hj; simp
  | 1, hj => simp at hj; subst hj; simp
  | 2, hj => simp at hj; subst hj; simp
  | 3, hj => simp at hj; subst hj; simp
theorem two_new (w : World) (a b : Value) (t : TypeId) : ∀ j u, [a, b][j]? = some u → (w.alloc (.cells #[a, b] t)).cell? ((⟨w.heap.size, 0, none⟩ : Addr).add j) = some u := by
  intro j u hj
  rw [Addr.add_lit]
  match j, hj with
  | 0, hj => simp at hj; subst hj; simp
  | 1, hj => simp at hj; subst hj; simp

theorem two_new' (w : World) (a b : Value) (t : TypeId) (n : Nat) (hn : n = w.heap.size) : ∀ j u, [a, b][j]? = some u → (w.alloc (.cells #[a, b] t)).cell? ((⟨n, 0, none⟩ : Addr).add j) = some u := by
  subst hn; exact two_new w a b t

/-- Behind an append to a row from base on: what lies ahead of base is as it was. -/
theorem grown_below {w w1 : World} {o : Obj} {base : Nat} {v : Value} (hgrow : (w.alloc o).grownBy w1 v.ownBlock) (hv : ∀ g, v.ownBlock = some g → base ≤ g) (hb : base ≤ w.heap.size) : Below base w w1 :=
  ((Below.refl base w).alloc hb o).grown hgrow (by simp; omega) hv

/-- One text more. -/
theorem CutX.push {wo wr w1 : World} {bx : Nat} {id : ByteArray} {ix sq : Int} {ss : List ByteArray} {vW v' : Value} {o : Obj} {s : ByteArray} (h : CutX wo bx id ix sq ss vW wr) (hgrow : (wr.alloc o).grownBy w1 vW.ownBlock)
    (hown' : w1.ownsRow (bx + 1) 9 1 v' (ss.length + 1) (ss.map Value.string ++ [.string s])) : CutX wo bx id ix sq (ss ++ [s]) v' (w1.setCell ⟨bx, 3, none⟩ v') := by
  have hb := grown_below hgrow (own_block h.own.1) h.le
  have hsz : (w1.setCell ⟨bx, 3, none⟩ v').heap.size = w1.heap.size := by simp [World.setCell]
  have hs1 := hb.size
  refine ⟨(h.box.below hb (by omega)).set3 v', ?_, (h.bel.trans (hb.mono (by omega))).setCell (Nat.le_refl _) _, by rw [hsz]; have := h.le; omega⟩
  rw [hsz]
  exact OwnAt.keep (by simpa using OwnAt.of_own hown') (StayE.setCell (.inl (by show bx < bx + 1; omega)) _) (Nat.le_refl _)
theorem CutX.open1 {wo wr w1 : World} {bx : Nat} {id : ByteArray} {ix sq : Int} {ss : List ByteArray} {vW : Value} {o : Obj} (h : CutX wo bx id ix sq ss vW wr) (hgrow : (wr.alloc o).grownBy w1 vW.ownBlock) : Open w1 bx (.string id) (.int .u32 ix) (.int .u32 sq) vW :=
  h.box.below (grown_below hgrow (own_block h.own.1) h.le) (by omega)

theorem take_snoc_map {α β : Type} (f : α → β) {xs : List α} {k : Nat} {x : α} (h : xs[k]? = some x) : (xs.take (k + 1)).map f = (xs.take k).map f ++ [f x] := by
  obtain ⟨hk, rfl⟩ := List.getElem?_eq_some_iff.1 h
  rw [List.take_succ_eq_append_getElem hk, List.map_append]; rfl

/-- One input more. -/
theorem CutState.push {w wo wr w1 : World} {tv tl : Int} {ti : List InD} {tz : List OutD} {vi vo vI v' u : Value} {k : Nat} {x : InD} {cells : List Value} {o : Obj} (h : CutState w tv tl ti tz vi vo k 0 vI (.slice none 0 0) wo)
    (hb : Below wo.heap.size wo wr) (hxk : ti[k]? = some x) (hu : StrOwn wr (wo.heap.size + 1) wr.heap.size u ((x.wit.take 6).map (cutS 90))) (hown : wr.ownsRow (w.heap.size + 3) 107 4 vI ((ti.take k).map cutIn).length cells)
    (hall : ∀ (j : Nat) (y : InD), ((ti.take k).map cutIn)[j]? = some y → cells[j * 4]? = some (.string y.id) ∧ cells[j * 4 + 1]? = some (.int .u32 y.ix) ∧ cells[j * 4 + 2]? = some (.int .u32 y.sq) ∧ ∃ u, cells[j * 4 + 3]? = some u ∧ StrOwn wr (w.heap.size + 3) wo.heap.size u y.wit)
    (hgrow : (wr.alloc o).grownBy w1 vI.ownBlock) (hown' : w1.ownsRow (w.heap.size + 3) 107 4 v' (((ti.take k).map cutIn).length + 1) (cells ++ [.string (cutS 40 x.id), .int .u32 x.ix, .int .u32 x.sq, u])) :
    CutState w tv tl ti tz vi vo (k + 1) 0 v' (.slice none 0 0) (w1.setCell ⟨w.heap.size + 1 + 1, 1, none⟩ v') := by
  have hle := h.le
  have hs0 := hb.size
  have hbl : Below (w.heap.size + 3) wr w1 := grown_below hgrow (own_block hown) (by omega)
  have hs1 := hbl.size
  have hb3 : Below (w.heap.size + 3) wo w1 := (hb.mono (by omega)).trans hbl
  have hsz : (w1.setCell ⟨w.heap.size + 1 + 1, 1, none⟩ v').heap.size = w1.heap.size := by simp [World.setCell]
  have hal : ∀ e, StayE (w.heap.size + 3) wr.heap.size e wr (wr.alloc o) := fun e => StayE.alloc o (Nat.le_refl _)
  refine ⟨?_, ?_, ?_, ?_, OutsOwn.nil _ _ _, ?_, by rw [hsz]; omega⟩
  · obtain ⟨a0, a1, a2, a3⟩ := h.bt
    have e := fun o => (World.cell?_setCell_other w1 ⟨w.heap.size + 1 + 1, 1, none⟩ ⟨w.heap.size, o, none⟩ v' (by intro e; injection e with e; omega)).trans (hb3.cell (p := ⟨w.heap.size, o, none⟩) (by show w.heap.size < _; omega))
    exact ⟨(e 0).trans a0, (e 1).trans a1, (e 2).trans a2, (e 3).trans a3⟩
  · exact (h.br.below hb3 (by omega)).other (by show w.heap.size + 1 ≠ w.heap.size + 1 + 1; omega) _
  · exact (h.bu.below hb3 (by omega)).set1 v'
  · rw [hsz, take_snoc_map cutIn hxk]
    have hI : InsOwn w1 (w.heap.size + 3) w1.heap.size v' ((ti.take k).map cutIn ++ [cutIn x]) := by
      refine InsOwn.push (w := wr.alloc o) (cells := cells) (x := cutIn x) (u := u) (hown.alloc _) (fun j y hy => ?_) ?_ hgrow hown'
      · obtain ⟨c0, c1, c2, u', c3, hs⟩ := hall j y hy
        exact ⟨c0, c1, c2, u', c3, (OwnAt.keep hs (fun b cur h1 h2 h3 => hal 9 b cur h1 (by omega) h3) (by simp; omega))⟩
      · exact (OwnAt.base (OwnAt.keep hu (StayE.alloc o (Nat.le_refl _)) (by simp)) (by omega))
    exact hI.keep (StayE.setCell (.inl (by show w.heap.size + 1 + 1 < w.heap.size + 3; omega)) _) (StayE.setCell (.inl (by show w.heap.size + 1 + 1 < w.heap.size + 3; omega)) _) (Nat.le_refl _)
  · exact (h.bel.trans (hb3.mono (by omega))).setCell (by show w.heap.size ≤ w.heap.size + 1 + 1; omega) _

/-- One output more. -/
theorem CutState.more {w wr w1 : World} {tv tl : Int} {ti : List InD} {tz : List OutD} {vi vo vI vO v' : Value} {k l : Nat} {x : OutD} {cells : List Value} {o o2 : Obj} (h : CutState w tv tl ti tz vi vo k l vI vO wr) (hxl : tz[l]? = some x)
    (hown : wr.ownsRow (w.heap.size + 3) 62 2 vO ((tz.take l).map cutOut).length cells) (hall : ∀ (j : Nat) (y : OutD), ((tz.take l).map cutOut)[j]? = some y → cells[j * 2]? = some (.int .i64 y.val) ∧ cells[j * 2 + 1]? = some (.string y.scr))
    (hgrow : ((wr.alloc o).alloc o2).grownBy w1 vO.ownBlock) (hown' : w1.ownsRow (w.heap.size + 3) 62 2 v' (((tz.take l).map cutOut).length + 1) (cells ++ [.int .i64 x.val, .string (cutS 50 x.scr)])) :
    CutState w tv tl ti tz vi vo k (l + 1) vI v' (w1.setCell ⟨w.heap.size + 1 + 1, 2, none⟩ v') := by
  have hle := h.le
  have hbl : Below (w.heap.size + 3) wr w1 := (((Below.refl (w.heap.size + 3) wr).alloc hle o).alloc (by simp; omega) o2).grown hgrow (by simp; omega) (own_block hown)
  have hs1 := hbl.size
  have hs2 : wr.heap.size + 2 ≤ w1.heap.size := by have := hgrow.size; simp at this; omega
  have hsz : (w1.setCell ⟨w.heap.size + 1 + 1, 2, none⟩ v').heap.size = w1.heap.size := by simp [World.setCell]
  have hst : ∀ e, e ≠ 62 → StayE (w.heap.size + 3) wr.heap.size e wr (w1.setCell ⟨w.heap.size + 1 + 1, 2, none⟩ v') := fun e he =>
    (((StayE.alloc o (Nat.le_refl _)).trans (StayE.alloc o2 (by simp))).trans (StayE.grown ((hown.alloc o).alloc o2) hgrow (by simp; omega) he)).trans (StayE.setCell (.inl (by show w.heap.size + 1 + 1 < w.heap.size + 3; omega)) _)
  refine ⟨?_, ?_, ?_, ?_, ?_, ?_, by rw [hsz]; omega⟩
  · obtain ⟨a0, a1, a2, a3⟩ := h.bt
    have e := fun o => (World.cell?_setCell_other w1 ⟨w.heap.size + 1 + 1, 2, none⟩ ⟨w.heap.size, o, none⟩ v' (by intro e; injection e with e; omega)).trans (hbl.cell (p := ⟨w.heap.size, o, none⟩) (by show w.heap.size < _; omega))
    exact ⟨(e 0).trans a0, (e 1).trans a1, (e 2).trans a2, (e 3).trans a3⟩
  · exact (h.br.below hbl (by omega)).other (by show w.heap.size + 1 ≠ w.heap.size + 1 + 1; omega) _
  · exact (h.bu.below hbl (by omega)).set2 v'
  · rw [hsz]
    exact h.ins.keep (hst 107 (by decide)) (hst 9 (by decide)) (by omega)
  · rw [hsz, take_snoc_map cutOut hxl]
    have hO : OutsOwn w1 (w.heap.size + 3) w1.heap.size v' ((tz.take l).map cutOut ++ [cutOut x]) := OutsOwn.push (x := cutOut x) hown.1 hall hown'
    exact hO.keep (StayE.setCell (.inl (by show w.heap.size + 1 + 1 < w.heap.size + 3; omega)) _) (Nat.le_refl _)
  · exact (h.bel.trans (hbl.mono (by omega))).setCell (by show w.heap.size ≤ w.heap.size + 1 + 1; omega) _
theorem CutState.open2 {w wr w1 : World} {tv tl : Int} {ti : List InD} {tz : List OutD} {vi vo vI vO : Value} {k l : Nat} {n : Nat} {cells : List Value} {o o2 : Obj} (h : CutState w tv tl ti tz vi vo k l vI vO wr)
    (hown : wr.ownsRow (w.heap.size + 3) 62 2 vO n cells) (hgrow : ((wr.alloc o).alloc o2).grownBy w1 vO.ownBlock) : Open w1 (w.heap.size + 1 + 1) (.int .u32 tv) vI vO (.int .u32 tl) := by
  have hle := h.le
  exact h.bu.below ((((Below.refl (w.heap.size + 3) wr).alloc hle o).alloc (by simp; omega) o2).grown hgrow (by simp; omega) (own_block hown)) (by omega)
theorem CutState.open1 {w wo wr w1 : World} {tv tl : Int} {ti : List InD} {tz : List OutD} {vi vo vI vO : Value} {k l : Nat} {n : Nat} {cells : List Value} {o : Obj} (h : CutState w tv tl ti tz vi vo k l vI vO wo) (hb : Below wo.heap.size wo wr)
    (hown : wr.ownsRow (w.heap.size + 3) 107 4 vI n cells) (hgrow : (wr.alloc o).grownBy w1 vI.ownBlock) : Open w1 (w.heap.size + 1 + 1) (.int .u32 tv) vI vO (.int .u32 tl) := by
  have hle := h.le
  have hs := hb.size
  exact (h.bu.below hb (by omega)).below (grown_below hgrow (own_block hown) (by omega)) (by omega)
theorem CutState.start (w : World) (tv tl : Int) (ti : List InD) (tz : List OutD) (vi vo : Value) :
    CutState w tv tl ti tz vi vo 0 0 (.slice none 0 0) (.slice none 0 0) (((w.alloc (.cells #[.int .u32 tv, vi, vo, .int .u32 tl] 51)).alloc (.cells #[.int .u32 0, .slice none 0 0, .slice none 0 0, .int .u32 0] 51)).alloc (.cells #[.int .u32 tv, .slice none 0 0, .slice none 0 0, .int .u32 tl] 51)) := by
  refine ⟨?_, ?_, ?_, InsOwn.nil _ _ _, OutsOwn.nil _ _ _, (((Below.refl _ _).alloc (Nat.le_refl _) _).alloc (by simp) _).alloc (by simp; omega) _, by simp⟩
  · have h := Boxed.new w (.int .u32 tv) vi vo (.int .u32 tl) 51
    obtain ⟨a0, a1, a2, a3⟩ := h
    have e := fun o => (World.cell?_alloc_lt ((w.alloc (.cells #[.int .u32 tv, vi, vo, .int .u32 tl] 51)).alloc (.cells #[.int .u32 0, .slice none 0 0, .slice none 0 0, .int .u32 0] 51)) (.cells #[.int .u32 tv, .slice none 0 0, .slice none 0 0, .int .u32 tl] 51) ⟨w.heap.size, o, none⟩ (by simp; omega)).trans (World.cell?_alloc_lt (w.alloc (.cells #[.int .u32 tv, vi, vo, .int .u32 tl] 51)) (.cells #[.int .u32 0, .slice none 0 0, .slice none 0 0, .int .u32 0] 51) ⟨w.heap.size, o, none⟩ (by simp))
    exact ⟨(e 0).trans a0, (e 1).trans a1, (e 2).trans a2, (e 3).trans a3⟩
  · have h := Open.new (w.alloc (.cells #[.int .u32 tv, vi, vo, .int .u32 tl] 51)) (.int .u32 0) (.slice none 0 0) (.slice none 0 0) (.int .u32 0) 51
    simp only [World.size_alloc] at h
    exact h.keep (Below.heap_alloc _ _ _ (by simp))
  · have h := Open.new ((w.alloc (.cells #[.int .u32 tv, vi, vo, .int .u32 tl] 51)).alloc (.cells #[.int .u32 0, .slice none 0 0, .slice none 0 0, .int .u32 0] 51)) (.int .u32 tv) (.slice none 0 0) (.slice none 0 0) (.int .u32 tl) 51
    simpa using h
theorem CutState.done {w wr : World} {tv tl : Int} {ti : List InD} {tz : List OutD} {vi vo vI vO : Value} {k l m : Nat} (h : CutState w tv tl ti tz vi vo k l vI vO wr) (hk : ti.take k = ti.take m) (hl : tz.take l = tz.take m) :
    TxAt wr (w.heap.size + 3) wr.heap.size vI vO (cutTx m ⟨tv, ti, tz, tl⟩) := by
  have h1 := h.ins.ins
  have h2 := h.outs.outs
  rw [hk] at h1
  rw [hl] at h2
  exact ⟨h1, h2⟩

theorem StayE.put4 {base top : Nat} {e : TypeId} {w : World} {g : Nat} (hg : g < base ∨ top ≤ g) (v0 v1 v2 v3 : Value) : StayE base top e w (put4 w g v0 v1 v2 v3) :=
  (((StayE.setCell (p := ⟨g, 0, none⟩) hg v0).trans (StayE.setCell (p := ⟨g, 1, none⟩) hg v1)).trans (StayE.setCell (p := ⟨g, 2, none⟩) hg v2)).trans (StayE.setCell (p := ⟨g, 3, none⟩) hg v3)
theorem CutState.own {w wr : World} {tv tl : Int} {ti : List InD} {tz : List OutD} {vi vo vI vO : Value} {k l m : Nat} (h : CutState w tv tl ti tz vi vo k l vI vO wr) (hk : ti.take k = ti.take m) (hl : tz.take l = tz.take m) :
    InsOwn wr (w.heap.size + 3) wr.heap.size vI (cutTx m ⟨tv, ti, tz, tl⟩).ins ∧ OutsOwn wr (w.heap.size + 3) wr.heap.size vO (cutTx m ⟨tv, ti, tz, tl⟩).outs := by
  have h1 := h.ins
  have h2 := h.outs
  rw [hk] at h1
  rw [hl] at h2
  exact ⟨h1, h2⟩

set_option maxHeartbeats 2000000 in
set_option maxRecDepth 100000 in
theorem cut_more (t : TxD) (m : Nat) (vi vo : Value) (w : World) (hi : Nat) (ht : TxAt w 0 hi vi vo t) (hhi : hi ≤ w.heap.size) (hm : m ≤ 512) (hl1 : t.ins.length ≤ 9223372036854775807) (hl2 : t.outs.length ≤ 9223372036854775807) (hl3 : ∀ x ∈ t.ins, x.wit.length ≤ 9223372036854775807) :
    Calls Tryz.prog 21 #[.agg #[.int .u32 t.ver, vi, vo, .int .u32 t.lock], .int .i64 m] w fun e w' => ∃ vi' vo', e = .returned (.agg #[.int .u32 t.ver, vi', vo', .int .u32 t.lock]) ∧ (InsOwn w' (w.heap.size + 3) w'.heap.size vi' (cutTx m t).ins ∧ OutsOwn w' (w.heap.size + 3) w'.heap.size vo' (cutTx m t).outs) ∧ Below w.heap.size w w' ∧ w.heap.size + 3 ≤ w'.heap.size := by
  obtain ⟨tv, ti, tz, tl⟩ := t
  obtain ⟨A1, m1, rfl⟩ := ht.1.form
  obtain ⟨A2, m2, rfl⟩ := ht.2.form
  have HT := Lib.hid ht
  have HL3 := Lib.hid hl3
  simp only at hl1 hl2 ⊢
  clear ht hl3
  obtain ⟨i9, hi9, y0, y1, y2⟩ := info_parts info9
  obtain ⟨i43, hi43, x0, x1, x2⟩ := info_parts info43
  obtain ⟨i52, hi52, z0, z1, z2⟩ := info_parts info52
  go_enter Tryz.func21, Tryz.ntmps21
  go_wp2_with fail
  go_loopg [6, 7, 8, 9] ti.length (fun gg s _ _ _ wr => ∃ (k : Nat) (vI : Value), k ≤ ti.length ∧ k ≤ m ∧ ti.length - k ≤ gg ∧ s = .int .i64 k ∧ Hid (CutState w tv tl ti tz (.slice A1 ti.length m1) (.slice A2 tz.length m2) k 0 vI (.slice none 0 0) wr))
  case atStart =>
    exact ⟨0, .slice none 0 0, Nat.zero_le _, Nat.zero_le _, by omega, rfl, CutState.start w tv tl ti tz _ _⟩
  case round =>
    obtain ⟨k, vI, hk, hkm, hgg, rfl, HS⟩ := hrel
    obtain ⟨a0, a1, a2, a3⟩ := HS.out.bt
    obtain ⟨⟨u0, u1, u2, u3⟩, fu⟩ := HS.out.bu
    have hz := HS.out.le
    have hzz : w.heap.size < wr.heap.size := by omega
    by_cases hlt : k < ti.length ∧ k < m
    · obtain ⟨hlt, hltm⟩ := hlt
      have hltz : (k : Int) < (ti.length : Int) := by omega
      have hltm' : (k : Int) < (m : Int) := by omega
      have hd : decide (k < ti.length) = true := decide_eq_true hlt
      have hdm : decide (k < m) = true := decide_eq_true hltm
      obtain ⟨x, hxk⟩ : ∃ x, ti[k]? = some x := ⟨_, List.getElem?_eq_getElem hlt⟩
      obtain ⟨b, off, rfl, g1, g2, c0, c1, c2, v, c3, hs⟩ := (HT.out.1.keep (Kept.of_below HS.out.bel hhi)).at hxk
      obtain ⟨B1, n1, rfl⟩ := hs.form
      have hbx : b < wr.heap.size := by omega
      have HSX := Lib.hid hs
      have HXK := Lib.hid hxk
      clear hs hxk
      go_wp2_with fail
      go_region
      go_upto_if 46 with (fail)
      go_cut [] (fun wx => CutX wr wr.heap.size (cutS 40 x.id) x.ix x.sq [] (.slice none 0 0) wx)
      case first =>
        have st : ∀ W : World, Open W wr.heap.size (.string (cutS 40 x.id)) (.int .u32 x.ix) (.int .u32 x.sq) (.slice none 0 0) → Below wr.heap.size wr W → wr.heap.size + 1 ≤ W.heap.size → CutX wr wr.heap.size (cutS 40 x.id) x.ix x.sq [] (.slice none 0 0) W :=
          fun W h1 h2 h3 => ⟨h1, ⟨World.ownsRow_nil _ _ 9 1, fun g h => by simp [Value.ownBlock] at h⟩, h2, h3⟩
        have ST := Lib.hid st
        clear st
        rcases cutS_cases 40 x.id with ⟨hs, he⟩ | ⟨hs, he⟩
        · have hs1 : (40 : Int) < (x.id.size : Int) := by omega
          have hs2 : (40 : Int) ≤ (x.id.size : Int) := by omega
          have hs3 : 40 ≤ x.id.size := by omega
          have HE := Lib.hid he
          clear he
          go_wp2_with fail
          go_meet
          exact ST.out _ (by rw [HE.out]; exact Open.new wr (.string (x.id.extract 0 40)) (.int .u32 x.ix) (.int .u32 x.sq) (.slice none 0 0) 107) ((Below.refl _ wr).alloc (Nat.le_refl _) _).drew (by simp)
        · have hs1 : ¬ (40 : Int) < (x.id.size : Int) := by omega
          have HE := Lib.hid he
          clear he
          go_wp2_with fail
          go_meet
          exact ST.out _ (by rw [HE.out]; exact Open.new wr (.string x.id) (.int .u32 x.ix) (.int .u32 x.sq) (.slice none 0 0) 107) ((Below.refl _ wr).alloc (Nat.le_refl _) _).drew (by simp)
      case rest =>
        have HX := Lib.hid hcut
        clear hcut
        obtain ⟨wo, hwo⟩ : ∃ wo, wo = wr := ⟨_, rfl⟩
        subst hwo
        have hwl := HL3.out x (List.mem_of_getElem? HXK.out)
        have C3 := Lib.hid c3
        clear a0 a1 a2 a3 u0 u1 u2 u3 fu c0 c1 c2 c3
        go_wp2_with fail
        go_loopg [8, 9] x.wit.length (fun gg s _ wr => ∃ (j : Nat) (vW : Value), j ≤ x.wit.length ∧ j ≤ 6 ∧ x.wit.length - j ≤ gg ∧ s = .int .i64 j ∧ Hid (CutX wo wo.heap.size (cutS 40 x.id) x.ix x.sq ((x.wit.take j).map (cutS 90)) vW wr))
        case atStart => exact ⟨0, .slice none 0 0, Nat.zero_le _, Nat.zero_le _, by omega, rfl, HX⟩
        case round =>
          obtain ⟨j, vW, hj, hj6, hgj, rfl, HR⟩ := hrel
          have hw1 : w.heap.size < wo.heap.size := by omega
          have hw2 : w.heap.size + 1 + 1 < wo.heap.size := by omega
          have a1 := (HR.out.bel.cell (p := ⟨w.heap.size, 1, none⟩) hw1).trans HS.out.bt.2.1
          have c3 := (HR.out.bel.cell (p := ⟨b, off + k * 4 + 3, none⟩) hbx).trans C3.out
          obtain ⟨⟨d0, d1, d2, d3⟩, fx⟩ := HR.out.box
          have f3 := fx 3
          have hle := HR.out.le
          have hzw : w.heap.size < wr.heap.size := by omega
          have hbw : b < wr.heap.size := by omega
          have hxw : wo.heap.size < wr.heap.size := by omega
          by_cases hjj : j < x.wit.length ∧ j < 6
          · obtain ⟨hjl, hj6'⟩ := hjj
            have j1 : (j : Int) < (x.wit.length : Int) := by omega
            have j2 : (j : Int) < 6 := by omega
            have j3 : decide (j < x.wit.length) = true := decide_eq_true hjl
            have j4 : decide ((j : Int) < 6) = true := decide_eq_true j2
            obtain ⟨s, hsj⟩ : ∃ s, x.wit[j]? = some s := ⟨_, List.getElem?_eq_getElem hjl⟩
            obtain ⟨eb, eo, rfl, _, he2, cs⟩ := (HSX.out.keep (Kept.of_below HR.out.bel (by omega))).at hjl
            rw [show x.wit.getD j ByteArray.empty = s from by simp [List.getD_eq_getElem?_getD, hsj]] at cs
            have SN := Lib.hid (take_snoc_map (cutS 90) hsj)
            clear hsj
            obtain ⟨ss, hss⟩ : ∃ ss, ss = (x.wit.take j).map (cutS 90) := ⟨_, rfl⟩
            have hssl : ss.length ≤ 6 := by rw [hss]; simp; omega
            rw [← hss] at HR
            rw [← hss] at SN
            clear hss
            obtain ⟨AW, cW, rfl⟩ := own_form HR.out.own.1
            rcases cutS_cases 90 s with ⟨hs, he⟩ | ⟨hs, he⟩
            · have hs1 : (90 : Int) < (s.size : Int) := by omega
              have hs2 : (90 : Int) ≤ (s.size : Int) := by omega
              have hs3 : 90 ≤ s.size := by omega
              rw [he] at SN
              clear he
              go_wp2_with (at_builtin; refine wpList_append_own _ rfl _ _ 105 rfl (wo.heap.size + 1) 9 i9 (.string ⟨#[]⟩) 1 16 Tryz.underlying105 hi9 y0 y1 y2 rfl (by decide) _ _ _ rfl (HR.out.own.1.alloc _) ⟨wr.heap.size, 0, none⟩ 1 1 [.string (s.extract 0 90)] rfl rfl (one_new _ _ _) (by intro u hu; simp at hu; subst hu; rfl) (by unfold maxLen; omega) (by omega) (by simp; omega) ?_; intro v' w1 hown' hgrow _; obtain ⟨A', c', rfl⟩ := own_form hown'; have ho := HR.out.open1 hgrow; have d3' := ho.1.2.2.2; have f3' := ho.2 3)
              go_roundg (x.wit.length - (j + 1))
              case measure => omega
              case rel => exact ⟨j + 1, _, by omega, by omega, by omega, by go_num, (show Hid _ from by rw [SN.out]; exact HR.out.push hgrow hown')⟩
            · have hs1 : ¬ (90 : Int) < (s.size : Int) := by omega
              rw [he] at SN
              clear he
              go_wp2_with (at_builtin; refine wpList_append_own _ rfl _ _ 105 rfl (wo.heap.size + 1) 9 i9 (.string ⟨#[]⟩) 1 16 Tryz.underlying105 hi9 y0 y1 y2 rfl (by decide) _ _ _ rfl (HR.out.own.1.alloc _) ⟨wr.heap.size, 0, none⟩ 1 1 [.string s] rfl rfl (one_new _ _ _) (by intro u hu; simp at hu; subst hu; rfl) (by unfold maxLen; omega) (by omega) (by simp; omega) ?_; intro v' w1 hown' hgrow _; obtain ⟨A', c', rfl⟩ := own_form hown'; have ho := HR.out.open1 hgrow; have d3' := ho.1.2.2.2; have f3' := ho.2 3)
              go_roundg (x.wit.length - (j + 1))
              case measure => omega
              case rel => exact ⟨j + 1, _, by omega, by omega, by omega, by go_num, (show Hid _ from by rw [SN.out]; exact HR.out.push hgrow hown')⟩
          · have htk : x.wit.take j = x.wit.take 6 := by
              rcases (show x.wit.length ≤ j ∨ j = 6 from by omega) with h | h
              · rw [List.take_of_length_le h, List.take_of_length_le (by omega)]
              · rw [h]
            rw [htk] at HR
            have u1 := (HR.out.bel.cell (p := ⟨w.heap.size + 1 + 1, 1, none⟩) hw2).trans HS.out.bu.1.2.1
            have HI := Lib.hid (HS.out.ins.keep (StayE.of_below HR.out.bel (Nat.le_refl _)) (StayE.of_below HR.out.bel (Nat.le_refl _)) (Nat.le_refl _))
            obtain ⟨ys, hye⟩ : ∃ ys, ys = (ti.take k).map cutIn := ⟨_, rfl⟩
            obtain ⟨ss, hse⟩ : ∃ ss, ss = (x.wit.take 6).map (cutS 90) := ⟨_, rfl⟩
            have hys : ys.length ≤ 512 := by rw [hye]; simp; omega
            rw [← hye] at HI
            rw [← hse] at HR
            have HYE := Lib.hid hye
            have HSE := Lib.hid hse
            clear hye hse htk
            obtain ⟨cells, hown, hall⟩ := HI.out
            have HOW := Lib.hid hown.1
            have HAL := Lib.hid hall
            obtain ⟨AI, cI, rfl⟩ := own_form hown.1
            obtain ⟨AW, cW, rfl⟩ := own_form HR.out.own.1
            clear hown hall HI
            have hsplit : (¬ (j : Int) < (x.wit.length : Int)) ∨ ((j : Int) < (x.wit.length : Int) ∧ ¬ (j : Int) < 6) := by omega
            rcases hsplit with j1 | ⟨j1, j2⟩
            all_goals
              go_wp2_with (at_builtin; refine wpList_append_own _ rfl _ _ 48 rfl (w.heap.size + 3) 107 i43 _ 4 56 Tryz.underlying48 hi43 x0 x1 x2 rfl (by decide) _ _ _ rfl (HOW.out.alloc _) ⟨wr.heap.size, 0, none⟩ 1 1 [.string (cutS 40 x.id), .int .u32 x.ix, .int .u32 x.sq, .slice AW ss.length cW] rfl rfl (four_new _ _ _ _ _ _) (by intro u hu; simp at hu; rcases hu with rfl | rfl | rfl | rfl <;> rfl) (by unfold maxLen; omega) (by omega) (by simp; omega) ?_; intro v' w1 hown' hgrow _; obtain ⟨A', c', rfl⟩ := own_form hown'; have ho := HS.out.open1 HR.out.bel HOW.out hgrow; have d3' := ho.1.2.1; have f3' := ho.2 1)
              go_roundg (ti.length - (k + 1))
              case measure => omega
              case rel =>
                have e1 := HYE.out
                have e2 := HSE.out
                subst e1 e2
                exact ⟨k + 1, _, by omega, by omega, by omega, by go_num, HS.out.push HR.out.bel HXK.out HR.out.own HOW.out HAL.out hgrow hown'⟩
    · have htk : ti.take k = ti.take m := by
        rcases (show ti.length ≤ k ∨ k = m from by omega) with h | h
        · rw [List.take_of_length_le h, List.take_of_length_le (by omega)]
        · rw [h]
      have HTK := Lib.hid htk
      clear htk
      have hsplit : (¬ (k : Int) < (ti.length : Int)) ∨ ((k : Int) < (ti.length : Int) ∧ ¬ (k : Int) < (m : Int)) := by omega
      clear a0 a1 a2 a3 u0 u1 u2 u3 fu
      obtain ⟨a0, a1, a2, a3⟩ := HS.out.bt
      rcases hsplit with j1 | ⟨j1, j2⟩
      all_goals
        go_wp2_with fail
        obtain ⟨wo, hwo⟩ : ∃ wo, wo = wr := ⟨_, rfl⟩
        subst hwo
        go_loopg [10, 11] tz.length (fun gg s _ wr => ∃ (l : Nat) (vO : Value), l ≤ tz.length ∧ l ≤ m ∧ tz.length - l ≤ gg ∧ s = .int .i64 l ∧ Hid (CutState w tv tl ti tz (.slice A1 ti.length m1) (.slice A2 tz.length m2) k l vI vO wr))
        case atStart => exact ⟨0, .slice none 0 0, Nat.zero_le _, Nat.zero_le _, by omega, rfl, HS⟩
        case round =>
          obtain ⟨l, vO, hl, hlm, hgl, rfl, HR⟩ := hrel
          clear a0 a1 a2 a3
          obtain ⟨a0, a1, a2, a3⟩ := HR.out.bt
          obtain ⟨⟨u0, u1, u2, u3⟩, fu⟩ := HR.out.bu
          have hzr := HR.out.le
          have hzr1 : w.heap.size < wr.heap.size := by omega
          have hzr2 : w.heap.size + 1 + 1 < wr.heap.size := by omega
          by_cases hll : l < tz.length ∧ l < m
          · obtain ⟨hll, hllm⟩ := hll
            have l1 : (l : Int) < (tz.length : Int) := by omega
            have l2 : (l : Int) < (m : Int) := by omega
            have l3 : decide (l < tz.length) = true := decide_eq_true hll
            have l4 : decide (l < m) = true := decide_eq_true hllm
            obtain ⟨x, hxl⟩ : ∃ x, tz[l]? = some x := ⟨_, List.getElem?_eq_getElem hll⟩
            obtain ⟨b, off, rfl, g1, g2, c0, c1⟩ := (HT.out.2.keep (Kept.of_below HR.out.bel hhi)).at hxl
            have hbw : b < wr.heap.size := by omega
            have HXL := Lib.hid hxl
            clear hxl
            have HI := Lib.hid HR.out.outs
            obtain ⟨ys, hye⟩ : ∃ ys, ys = (tz.take l).map cutOut := ⟨_, rfl⟩
            have hys : ys.length ≤ 512 := by rw [hye]; simp; omega
            rw [← hye] at HI
            have HYE := Lib.hid hye
            clear hye
            obtain ⟨cells, hown, hall⟩ := HI.out
            have HOW := Lib.hid hown.1
            have HAL := Lib.hid hall
            obtain ⟨AI, cI, rfl⟩ := own_form hown.1
            clear hown hall HI
            rcases cutS_cases 50 x.scr with ⟨hs, he⟩ | ⟨hs, he⟩
            · have hs1 : (50 : Int) < (x.scr.size : Int) := by omega
              have hs2 : (50 : Int) ≤ (x.scr.size : Int) := by omega
              have hs3 : 50 ≤ x.scr.size := by omega
              have HE := Lib.hid he
              clear he
              go_wp2_with (at_builtin; refine wpList_append_own _ rfl _ _ 49 rfl (w.heap.size + 3) 62 i52 _ 2 24 Tryz.underlying49 hi52 z0 z1 z2 rfl (by decide) _ _ _ rfl ((HOW.out.alloc _).alloc _) ⟨wr.heap.size + 1, 0, none⟩ 1 1 [.int .i64 x.val, .string (x.scr.extract 0 50)] rfl rfl (two_new' _ _ _ _ _ (by simp)) (by intro u hu; simp at hu; rcases hu with rfl | rfl <;> rfl) (by unfold maxLen; omega) (by omega) (by simp; omega) ?_; intro v' w1 hown' hgrow _; obtain ⟨A', c', rfl⟩ := own_form hown'; have ho := HR.out.open2 HOW.out hgrow; have d3' := ho.1.2.2.1; have f3' := ho.2 2)
              go_roundg (tz.length - (l + 1))
              case measure => omega
              case rel =>
                have e1 := HYE.out
                subst e1
                exact ⟨l + 1, _, by omega, by omega, by omega, by go_num, HR.out.more HXL.out HOW.out HAL.out hgrow (by rw [HE.out]; exact hown')⟩
            · have hs1 : ¬ (50 : Int) < (x.scr.size : Int) := by omega
              have HE := Lib.hid he
              clear he
              go_wp2_with (at_builtin; refine wpList_append_own _ rfl _ _ 49 rfl (w.heap.size + 3) 62 i52 _ 2 24 Tryz.underlying49 hi52 z0 z1 z2 rfl (by decide) _ _ _ rfl ((HOW.out.alloc _).alloc _) ⟨wr.heap.size + 1, 0, none⟩ 1 1 [.int .i64 x.val, .string x.scr] rfl rfl (two_new' _ _ _ _ _ (by simp)) (by intro u hu; simp at hu; rcases hu with rfl | rfl <;> rfl) (by unfold maxLen; omega) (by omega) (by simp; omega) ?_; intro v' w1 hown' hgrow _; obtain ⟨A', c', rfl⟩ := own_form hown'; have ho := HR.out.open2 HOW.out hgrow; have d3' := ho.1.2.2.1; have f3' := ho.2 2)
              go_roundg (tz.length - (l + 1))
              case measure => omega
              case rel =>
                have e1 := HYE.out
                subst e1
                exact ⟨l + 1, _, by omega, by omega, by omega, by go_num, HR.out.more HXL.out HOW.out HAL.out hgrow (by rw [HE.out]; exact hown')⟩
          · have htl : tz.take l = tz.take m := by
              rcases (show tz.length ≤ l ∨ l = m from by omega) with h | h
              · rw [List.take_of_length_le h, List.take_of_length_le (by omega)]
              · rw [h]
            have HD := Lib.hid (HR.out.done HTK.out htl)
            have HW := Lib.hid (HR.out.own HTK.out htl)
            clear htl
            obtain ⟨AI, cI, rfl⟩ := HD.out.1.form
            obtain ⟨AO, cO, rfl⟩ := HD.out.2.form
            obtain ⟨⟨e0, e1, e2, e3⟩, fe⟩ := HR.out.br
            have f0 := fe 0
            have f1 := fe 1
            have f2 := fe 2
            have f3 := fe 3
            have hsplit : (¬ (l : Int) < (tz.length : Int)) ∨ ((l : Int) < (tz.length : Int) ∧ ¬ (l : Int) < (m : Int)) := by omega
            rcases hsplit with k1 | ⟨k1, k2⟩
            all_goals
              go_wp2_with fail
              refine bodyPost_ret (v := .agg #[.int .u32 tv, .slice AI (cutTx m ⟨tv, ti, tz, tl⟩).ins.length cI, .slice AO (cutTx m ⟨tv, ti, tz, tl⟩).outs.length cO, .int .u32 tl]) (by simp [results, Tryz.results21, go_sem, e0, e1, e2, e3]) rfl ?_
              exact ⟨_, _, rfl, ⟨HW.out.1.keep (StayE.put4 (g := w.heap.size + 1) (.inl (by omega)) _ _ _ _) (StayE.put4 (g := w.heap.size + 1) (.inl (by omega)) _ _ _ _) (Nat.le_of_eq (put4_size _ _ _ _ _ _).symm), HW.out.2.keep (StayE.put4 (g := w.heap.size + 1) (.inl (by omega)) (.int .u32 tv) (.slice AI (cutTx m ⟨tv, ti, tz, tl⟩).ins.length cI) (.slice AO (cutTx m ⟨tv, ti, tz, tl⟩).outs.length cO) (.int .u32 tl)) (Nat.le_of_eq (put4_size _ _ _ _ _ _).symm)⟩, put4_below HR.out.bel (by omega) _ _ _ _, Nat.le_trans HR.out.le (Nat.le_of_eq (put4_size _ _ _ _ _ _).symm)⟩

theorem cut_own (t : TxD) (m : Nat) (vi vo : Value) (w : World) (hi : Nat) (ht : TxAt w 0 hi vi vo t) (hhi : hi ≤ w.heap.size) (hm : m ≤ 512) (hl1 : t.ins.length ≤ 9223372036854775807) (hl2 : t.outs.length ≤ 9223372036854775807) (hl3 : ∀ x ∈ t.ins, x.wit.length ≤ 9223372036854775807) :
    Calls Tryz.prog 21 #[.agg #[.int .u32 t.ver, vi, vo, .int .u32 t.lock], .int .i64 m] w fun e w' => ∃ vi' vo', e = .returned (.agg #[.int .u32 t.ver, vi', vo', .int .u32 t.lock]) ∧ (InsOwn w' (w.heap.size + 3) w'.heap.size vi' (cutTx m t).ins ∧ OutsOwn w' (w.heap.size + 3) w'.heap.size vo' (cutTx m t).outs) ∧ Below w.heap.size w w' :=
  (cut_more t m vi vo w hi ht hhi hm hl1 hl2 hl3).mono fun _ _ ⟨vi', vo', he, h, hb, _⟩ => ⟨vi', vo', he, h, hb⟩

theorem cut_any (t : TxD) (m : Nat) (vi vo : Value) (w : World) (hi : Nat) (ht : TxAt w 0 hi vi vo t) (hhi : hi ≤ w.heap.size) (hm : m ≤ 512) (hl1 : t.ins.length ≤ 9223372036854775807) (hl2 : t.outs.length ≤ 9223372036854775807) (hl3 : ∀ x ∈ t.ins, x.wit.length ≤ 9223372036854775807) :
    Calls Tryz.prog 21 #[.agg #[.int .u32 t.ver, vi, vo, .int .u32 t.lock], .int .i64 m] w fun e w' => ∃ vi' vo', e = .returned (.agg #[.int .u32 t.ver, vi', vo', .int .u32 t.lock]) ∧ TxAt w' w.heap.size w'.heap.size vi' vo' (cutTx m t) ∧ Below w.heap.size w w' :=
  (cut_own t m vi vo w hi ht hhi hm hl1 hl2 hl3).mono fun _ _ ⟨vi', vo', he, ⟨h1, h2⟩, hb⟩ => ⟨vi', vo', he, ⟨h1.ins.wide (by omega) (Nat.le_refl _), h2.outs.wide (by omega) (Nat.le_refl _)⟩, hb⟩

end Go.Proofs.YtnmfjnfdnjjngaaGreatDoor
