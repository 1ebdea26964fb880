/-
  What TxCounts' walk leans on: very many inputs, one by one; outputs that are made; when such a transaction may be.
-/
import Derived.Test.YtnljicongmknhaaFewm
import Derived.Test.YtnljicongmknhaaIdn
import Derived.Test.YtnljicongmknhaaWmem
namespace Go.Proofs.Ytnljicongmknhaa
open Go.RowKit

/-- n empty texts, made. -/
def mkS (n : Nat) : Array Value := madeCells (Value.string ⟨#[]⟩).cells n
/-- n empty outputs, made. -/
def mkO (n : Nat) : Array Value := madeCells (Value.agg #[.int .i64 0, .string ⟨#[]⟩]).cells (n * 2)

theorem make_strs (n : Nat) (hn : n ≤ 512) (W : World) : (Instr.makeSlice 41 (.int .i64 (n : Int)) (.int .i64 (n : Int))).run Try.prog W = .ok (.slice (some ⟨W.heap.size, 0, none⟩) n n) (W.alloc (.cells (mkS n) 9)) := by
  obtain ⟨i0, hi, hz0, hz1, hz2⟩ := info_parts info9
  have hr := run_make (P := Try.prog) W 41 9 i0 _ Try.underlying41 hi hz0 .i64 .i64 (n : Int) (n : Int) (by omega) (Int.le_refl _) (by rw [hz2]; omega) (by omega)
  rw [hz1] at hr
  simpa [mkS] using hr
theorem make_outs (n : Nat) (hn : n ≤ 512) (W : World) : (Instr.makeSlice 24 (.int .i64 (n : Int)) (.int .i64 (n : Int))).run Try.prog W = .ok (.slice (some ⟨W.heap.size, 0, none⟩) n n) (W.alloc (.cells (mkO n) 52)) := by
  obtain ⟨i0, hi, hz0, hz1, hz2⟩ := info_parts info52
  have hr := run_make (P := Try.prog) W 24 52 i0 _ Try.underlying24 hi hz0 .i64 .i64 (n : Int) (n : Int) (by omega) (Int.le_refl _) (by rw [hz2]; omega) (by omega)
  rw [hz1] at hr
  simpa [mkO] using hr
theorem mkS_own {W : World} {base g n : Nat} (hb : base ≤ g) (hn : n ≤ 512) (h : W.heap[g]? = some (.cells (mkS n) 9 (0, 0))) : StrOwn W base W.heap.size (.slice (some ⟨g, 0, none⟩) n n) (List.replicate n ⟨#[]⟩) := by
  have e : (mkS n).toList = List.replicate n (Value.string ⟨#[]⟩) := toList_madeCells_one _ n
  have hs : (mkS n).size = n := size_madeCells _ n
  refine OwnAt.of_own ⟨by simp, .inr ⟨g, n, mkS n, by simp, hb, h, by simp, by unfold maxLen; omega, by omega, ?_⟩⟩
  rw [e]
  simp
theorem mkO_outs {W : World} {lo hi g n : Nat} (h1 : lo ≤ g) (h2 : g < hi) (h : W.heap[g]? = some (.cells (mkO n) 52 (0, 0))) : Outs W lo hi (.slice (some ⟨g, 0, none⟩) n n) (List.replicate n ⟨0, ⟨#[]⟩⟩) := by
  refine ⟨_, n, by simp, by simp, .inr ⟨g, 0, rfl, h1, h2, fun k x hx => ?_⟩⟩
  rw [List.getElem?_replicate] at hx
  split at hx
  case isFalse => cases hx
  rename_i hk
  injection hx with hx
  subst hx
  have hc : ∀ o, W.cell? ⟨g, o, none⟩ = (mkO n)[o]? := fun o => by simp [World.cell?, h]
  rw [Nat.zero_add]
  refine ⟨(hc _).trans ?_, (hc _).trans ?_⟩
  · have : k * 2 < n * 2 := by omega
    have e : k * 2 % 2 = 0 := by omega
    simp [mkO, madeCells, Value.cells, this, e]
  · have : k * 2 + 1 < n * 2 := by omega
    have e : (k * 2 + 1) % 2 = 1 := by omega
    simp [mkO, madeCells, Value.cells, this, e]

/-- The inputs of TxCounts, so far. -/
def CntL (n9 : Nat) (ys : List InD) : Prop := ∀ (j : Nat) (x : InD), ys[j]? = some x → x.id.size = 32 ∧ x.ix = j ∧ x.sq = 0 ∧ x.wit = List.replicate n9 ⟨#[]⟩
theorem CntL.nil (n9 : Nat) : CntL n9 [] := fun j x hx => by simp at hx
theorem CntL.push {n9 : Nat} {ys : List InD} (h : CntL n9 ys) {s : ByteArray} (hs : s.size = 32) : CntL n9 (ys ++ [⟨s, ys.length, 0, List.replicate n9 ⟨#[]⟩⟩]) := by
  intro j x hx
  by_cases hj : j < ys.length
  · rw [List.getElem?_append_left hj] at hx; exact h j x hx
  · have hj2 : j = ys.length := by
      have := (List.getElem?_eq_some_iff.1 hx).1
      simp at this; omega
    subst hj2
    simp at hx
    subst hx
    exact ⟨hs, rfl, rfl, rfl⟩
theorem CntL.ok {n9 : Nat} {ys : List InD} (h : CntL n9 ys) (h9 : n9 ≤ 8) (hl : ys.length ≤ 512) {m : Nat} (hm : m ≤ 512) : (⟨2, ys, List.replicate m ⟨0, ⟨#[]⟩⟩, 0⟩ : TxD).Ok := by
  refine ⟨hl, by simp; omega, fun x hx => ?_, fun x hx => ?_, by simp⟩
  · obtain ⟨j, hj⟩ := List.getElem?_of_mem hx
    have hlt : j < ys.length := (List.getElem?_eq_some_iff.1 hj).1
    obtain ⟨h1, h2, h3, h4⟩ := h j x hj
    refine ⟨by omega, by omega, by omega, by omega, by omega, by rw [h4]; simp; omega, fun s hs => ?_⟩
    rw [h4] at hs
    rw [List.eq_of_mem_replicate hs]
    decide
  · rw [List.eq_of_mem_replicate hx]
    exact ⟨by decide, by decide, by decide⟩

theorem sum_zeros (m : Nat) : sumFrom 0 (List.replicate m 0) = (0, 0) := by
  have h0 : addOk 0 0 = true := by decide +kernel
  induction m with
  | zero => rfl
  | succ m ih => simp only [List.replicate_succ, sumFrom, h0, if_true]; exact ih

theorem cnt_good {n9 m : Nat} {ys : List InD} (h : CntL n9 ys) (h1 : 1 ≤ ys.length) (h2 : ys.length ≤ 256) (h3 : 1 ≤ m) (h4 : m ≤ 256) (h5 : n9 ≤ 4) : checkD ⟨2, ys, List.replicate m ⟨0, ⟨#[]⟩⟩, 0⟩ = 0 := by
  have e1 : countsB ⟨2, ys, List.replicate m ⟨0, ⟨#[]⟩⟩, 0⟩ = true := by
    refine countsB_of ⟨h1, h2⟩ ⟨by simp; omega, by simp; omega⟩ ?_
    rw [List.any_eq_false]
    intro x hx
    obtain ⟨j, hj⟩ := List.getElem?_of_mem hx
    rw [(h j x hj).2.2.2]
    simp [manyB]
    omega
  have e2 : longB ⟨2, ys, List.replicate m ⟨0, ⟨#[]⟩⟩, 0⟩ = false := by
    unfold longB
    rw [Bool.or_eq_false_iff]
    refine ⟨?_, ?_⟩
    · rw [List.any_eq_false]
      intro x hx
      rw [List.eq_of_mem_replicate hx]
      decide
    · rw [List.any_eq_false]
      intro x hx
      obtain ⟨j, hj⟩ := List.getElem?_of_mem hx
      rw [(h j x hj).2.2.2]
      rw [Bool.not_eq_true, List.any_eq_false]
      intro s hs
      rw [List.eq_of_mem_replicate hs]
      decide
  have e3 : pointsB ys = true := by
    unfold pointsB
    rw [Bool.not_eq_true']
    rw [List.any_eq_false]
    intro x hx
    obtain ⟨j, hj⟩ := List.getElem?_of_mem hx
    have hlt := (List.getElem?_eq_some_iff.1 hj).1
    obtain ⟨q1, q2, _, _⟩ := h j x hj
    have hb : baseB x.id x.ix = false := by
      rw [Bool.eq_false_iff]
      intro hb
      have := ((ptB_iff _ _ _ _).1 hb).2
      omega
    rw [Bool.not_eq_true]
    unfold amissB
    simp [q1, hb]
  have e4 : twiceB ys = false := by
    refine twice_no fun i k x y hki hx hy => ?_
    rw [Bool.eq_false_iff]
    intro hp
    have := ((ptB_iff _ _ _ _).1 hp).2
    have a := (h i x hx).2.1
    have b := (h k y hy).2.1
    omega
  rw [checkD_range e1 e2 e3 e4]
  unfold totalD vals
  simp only [List.map_replicate]
  rw [sum_zeros]
theorem cnt_bad {n9 m : Nat} {ys : List InD} (h : CntL n9 ys) (hb : ys.length < 1 ∨ 256 < ys.length ∨ m < 1 ∨ 256 < m ∨ (1 ≤ ys.length ∧ 4 < n9)) : checkD ⟨2, ys, List.replicate m ⟨0, ⟨#[]⟩⟩, 0⟩ = 6 := by
  apply checkD_count
  rcases hb with hb | hb | hb | hb | ⟨hb, h9⟩
  · exact countsB_ins (inR_no1 hb)
  · exact countsB_ins (inR_no2 hb)
  · exact countsB_outs (by simp only [List.length_replicate]; exact inR_no1 hb)
  · exact countsB_outs (by simp only [List.length_replicate]; exact inR_no2 hb)
  · obtain ⟨x, hx⟩ : ∃ x, ys[0]? = some x := ⟨_, List.getElem?_eq_getElem (by omega)⟩
    have : (ys.any fun x => manyB x.wit.length) = true := List.any_eq_true.2 ⟨x, List.mem_of_getElem? hx, by rw [(h 0 x hx).2.2.2]; simp [manyB]; omega⟩
    simp [countsB, this]

/-- Where TxCounts stands in its loop. -/
structure CntS (w : World) (n9 : Nat) (ys : List InD) (vI : Value) (wx : World) : Prop where
  box : Open wx w.heap.size (.int .u32 2) vI (.slice none 0 0) (.int .u32 0)
  ins : InsOwn wx (w.heap.size + 1) wx.heap.size vI ys
  all : CntL n9 ys
  bel : Below w.heap.size w wx
  lt : w.heap.size < wx.heap.size
theorem own_below {w w' : World} {base : Nat} {e : TypeId} {size n : Nat} {v : Value} {xs : List Value} (h : w.ownsRow base e size v n xs) (hb : Below w.heap.size w w') : w'.ownsRow base e size v n xs :=
  ((OwnAt.of_own h).keep (StayE.of_below hb (Nat.le_refl _)) hb.size).1
/-- One input more. -/
theorem CntS.push {w wr W w1 : World} {n9 k : Nat} {ys : List InD} {vI v' : Value} {cells : List Value} {s : ByteArray} {gv : Nat} (h : CntS w n9 ys vI wr) (hyl : ys.length = k) (hbr : Below wr.heap.size wr W) (h9 : n9 ≤ 512) (hs : s.size = 32)
    (hcells : OwnAt wr (w.heap.size + 1) wr.heap.size 43 4 vI k cells ∧ ∀ (j : Nat) (x : InD), ys[j]? = some x → cells[j * 4]? = some (.string x.id) ∧ cells[j * 4 + 1]? = some (.int .u32 x.ix) ∧ cells[j * 4 + 2]? = some (.int .u32 x.sq) ∧ ∃ u, cells[j * 4 + 3]? = some u ∧ StrOwn wr (w.heap.size + 1) wr.heap.size u x.wit)
    (hv : w.heap.size + 1 ≤ gv) (hgv : W.heap[gv]? = some (.cells (mkS n9) 9 (0, 0)))
    (hgr : W.grownBy w1 vI.ownBlock) (hown : w1.ownsRow (w.heap.size + 1) 43 4 v' (k + 1) (cells ++ [.string s, .int .u32 (k : Int), .int .u32 0, .slice (some ⟨gv, 0, none⟩) n9 n9])) :
    CntS w n9 (ys ++ [⟨s, ys.length, 0, List.replicate n9 ⟨#[]⟩⟩]) v' (w1.setCell ⟨w.heap.size, 1, none⟩ v') := by
  subst hyl
  obtain ⟨hc1, hc2⟩ := hcells
  have zr := hbr.size
  have zg := hgr.size
  have hlt := h.lt
  have ob := own_block hc1.1
  have hp := InsOwn.push (w := W) (w1 := w1) (base := w.heap.size + 1) (v := vI) (v' := v') (ys := ys) (cells := cells) (x := ⟨s, ys.length, 0, List.replicate n9 ⟨#[]⟩⟩) (u := .slice (some ⟨gv, 0, none⟩) n9 n9) (own_below hc1.1 hbr)
    (fun j x hx => by
      obtain ⟨c0, c1, c2, u, c3, hst⟩ := hc2 j x hx
      exact ⟨c0, c1, c2, u, c3, OwnAt.keep hst (StayE.of_below hbr (Nat.le_refl _)) zr⟩) (mkS_own hv h9 hgv) hgr hown
  have hbl : w1.heap[w.heap.size]? = W.heap[w.heap.size]? := hgr.block _ (by omega) (fun e => by have := ob _ e.symm; omega)
  have st : ∀ e, StayE (w.heap.size + 1) w1.heap.size e w1 (w1.setCell ⟨w.heap.size, 1, none⟩ v') := fun e => StayE.setCell (.inl (by show w.heap.size < w.heap.size + 1; omega)) _
  have zx : (w1.setCell ⟨w.heap.size, 1, none⟩ v').heap.size = w1.heap.size := by simp [World.setCell]
  refine ⟨((h.box.keep ((hbl.trans (hbr.block _ hlt))))).set1 _, (hp.keep (st 43) (st 9) (by omega)), h.all.push hs, ?_, by omega⟩
  have hb1 := below_next h.bel h.bel.size hbr
  exact (hb1.grown hgr (by omega) (fun k hk => by have := ob k hk; omega)).setCell (Nat.le_refl _) _

/-- The box's cell, behind an append to a row that is not it. -/
theorem cnt_far {w wr W w10 : World} {row : Option Nat} {v : Value} (hgr : W.grownBy w10 row) (hb : Below wr.heap.size wr W) (hrow : ∀ k, row = some k → w.heap.size + 1 ≤ k) (hlt : w.heap.size < wr.heap.size) (hc : wr.cell? ⟨w.heap.size, 1, none⟩ = some v ∧ wr.frozen? ⟨w.heap.size, 1, none⟩ = false) :
    w10.cell? ⟨w.heap.size, 1, none⟩ = some v ∧ w10.frozen? ⟨w.heap.size, 1, none⟩ = false := by
  have hs := hb.size
  have hne : some w.heap.size ≠ row := fun e => by have := hrow _ e.symm; omega
  exact ⟨(hgr.cell_far ⟨w.heap.size, 1, none⟩ (by show w.heap.size < _; omega) hne).trans ((hb.cell (p := ⟨w.heap.size, 1, none⟩) hlt).trans hc.1), (hgr.frozen_far ⟨w.heap.size, 1, none⟩ (by show w.heap.size < _; omega) hne).trans ((hb.frozen (p := ⟨w.heap.size, 1, none⟩) hlt).trans hc.2)⟩

/-- With its outputs made. -/
theorem cnt_out {w wr : World} {n9 k m ca : Nat} {A : Option Addr} {ys : List InD} (h : CntS w n9 ys (.slice A k ca) wr) (hyl : ys.length = k) :
    TxS w.heap.size ⟨2, ys, List.replicate m ⟨0, ⟨#[]⟩⟩, 0⟩ (.slice A k ca) (.slice (some ⟨wr.heap.size, 0, none⟩) m m) ((wr.setCell ⟨w.heap.size, 2, none⟩ (.slice (some ⟨wr.heap.size, 0, none⟩) m m)).alloc (.cells (mkO m) 52)) ∧
      Below w.heap.size w ((wr.setCell ⟨w.heap.size, 2, none⟩ (.slice (some ⟨wr.heap.size, 0, none⟩) m m)).alloc (.cells (mkO m) 52)) := by
  subst hyl
  have hlt := h.lt
  have z1 : (wr.setCell ⟨w.heap.size, 2, none⟩ (.slice (some ⟨wr.heap.size, 0, none⟩) m m)).heap.size = wr.heap.size := by simp [World.setCell]
  have zx : ((wr.setCell ⟨w.heap.size, 2, none⟩ (.slice (some ⟨wr.heap.size, 0, none⟩) m m)).alloc (.cells (mkO m) 52)).heap.size = wr.heap.size + 1 := by rw [World.size_alloc, z1]
  have kp : Kept (w.heap.size + 1) wr.heap.size wr (wr.setCell ⟨w.heap.size, 2, none⟩ (.slice (some ⟨wr.heap.size, 0, none⟩) m m)) := Kept.setCell (.inl (by show w.heap.size < _; omega)) _
  have hnew := heap_alloc_new (wr.setCell ⟨w.heap.size, 2, none⟩ (.slice (some ⟨wr.heap.size, 0, none⟩) m m)) (.cells (mkO m) 52)
  rw [z1] at hnew
  have hb1 := h.bel.setCell (p := ⟨w.heap.size, 2, none⟩) (Nat.le_refl _) (.slice (some ⟨wr.heap.size, 0, none⟩) m m)
  refine ⟨⟨((h.box.set2 _).past _ (by omega)).1, ⟨?_, ?_⟩, by rw [zx]; omega⟩, hb1.alloc (by rw [z1]; omega) _⟩
  · exact ((h.ins.ins.keep kp).keep (Kept.alloc (by rw [z1]; exact Nat.le_refl _) _)).wide (Nat.zero_le _) (by rw [zx]; omega)
  · exact (mkO_outs (lo := w.heap.size + 1) (hi := wr.heap.size + 1) (by omega) (by omega) hnew).wide (Nat.zero_le _) (by rw [zx]; exact Nat.le_refl _)

end Go.Proofs.Ytnljicongmknhaa
