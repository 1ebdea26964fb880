/-
  Which branch a witness opens; whether a lock opens: the program's and the document's.
-/
import Derived.Test.YtjclklppnkoehaaGreatDoorLop
namespace Go.Proofs.YtjclklppnkoehaaGreatDoor
open Go.RowKit
set_option maxRecDepth 100000

/-- The branch of a script's lock that a witness opens. -/
def fitB (b : BrD) (t : Int) : Bool := (b.tag == 0) || (b.tag == t)
def sbO (s : ByteArray) (ws : List ByteArray) : Option BrD := if snB ws = true then ((gtR s)[(snN ws).toNat]?).bind fun b => if fitB b (snT ws) = true then some b else none else none
theorem gt_nil {s : ByteArray} (h : ¬ gtE s = 0) : gtR s = [] := by unfold gtR; rw [if_neg h]
theorem sb_err {s : ByteArray} {ws : List ByteArray} (h : ¬ gtE s = 0) : sbO s ws = none := by
  unfold sbO
  rw [gt_nil h]
  split <;> rfl
theorem sb_not {s : ByteArray} {ws : List ByteArray} (h : snB ws = false) : sbO s ws = none := by unfold sbO; rw [if_neg (by rw [h]; decide)]
theorem snE_not {ws : List ByteArray} (h : ¬ snE ws = 0) : snB ws = false := by
  cases e : snB ws
  · rfl
  · exact absurd (by unfold snE; rw [if_pos e]) h
theorem snE_yes {ws : List ByteArray} (h : snE ws = 0) : snB ws = true := by
  cases e : snB ws
  · rw [(sn_not e).1] at h; cases h
  · rfl
theorem snN_bd (ws : List ByteArray) : 0 ≤ snN ws ∧ snN ws ≤ 2 := by
  unfold snN
  split
  · rename_i s
    split
    · rename_i h
      unfold snB at h
      simp only [decide_eq_true_eq] at h
      have := getN_bd1 s 0
      omega
    · omega
  · omega
theorem snT_bd (ws : List ByteArray) : 0 ≤ snT ws ∧ snT ws ≤ 65535 := by
  unfold snT
  split
  · rename_i s
    split
    · have := getN_bd2 s 1
      omega
    · omega
  · omega
/-- What signedBranch answers. -/
def sbX (o : Option BrD) : BrD := o.getD ⟨0, 0, 0⟩

theorem three_box (w : World) (a b c : Value) (t : TypeId) : (w.alloc (.cells #[a, b, c] t)).cell? ⟨w.heap.size, 0, none⟩ = some a ∧ (w.alloc (.cells #[a, b, c] t)).cell? ⟨w.heap.size, 1, none⟩ = some b ∧ (w.alloc (.cells #[a, b, c] t)).cell? ⟨w.heap.size, 2, none⟩ = some c := ⟨by simp, by simp, by simp⟩

theorem done3 {w1 : World} {g : Nat} {x0 x1 x2 : Value} (a b c : Value) (o : Obj) (hlt : g < w1.heap.size) (e0 : w1.cell? ⟨g, 0, none⟩ = some x0) (e1 : w1.cell? ⟨g, 1, none⟩ = some x1) (e2 : w1.cell? ⟨g, 2, none⟩ = some x2) :
    ((((w1.setCell ⟨g, 0, none⟩ a).setCell ⟨g, 1, none⟩ b).setCell ⟨g, 2, none⟩ c).alloc o).cell? ⟨g, 0, none⟩ = some a ∧ ((((w1.setCell ⟨g, 0, none⟩ a).setCell ⟨g, 1, none⟩ b).setCell ⟨g, 2, none⟩ c).alloc o).cell? ⟨g, 1, none⟩ = some b ∧ ((((w1.setCell ⟨g, 0, none⟩ a).setCell ⟨g, 1, none⟩ b).setCell ⟨g, 2, none⟩ c).alloc o).cell? ⟨g, 2, none⟩ = some c := by
  have ne : ∀ {W : World} {o p : Nat} {v : Value}, o ≠ p → (W.setCell ⟨g, p, none⟩ v).cell? ⟨g, o, none⟩ = W.cell? ⟨g, o, none⟩ := fun ho => World.cell?_setCell_other _ _ _ _ (by intro e; injection e with _ e; exact ho e.symm)
  have al : ∀ p, ((((w1.setCell ⟨g, 0, none⟩ a).setCell ⟨g, 1, none⟩ b).setCell ⟨g, 2, none⟩ c).alloc o).cell? ⟨g, p, none⟩ = (((w1.setCell ⟨g, 0, none⟩ a).setCell ⟨g, 1, none⟩ b).setCell ⟨g, 2, none⟩ c).cell? ⟨g, p, none⟩ := fun p => World.cell?_alloc_lt _ _ ⟨g, p, none⟩ (by simpa using hlt)
  refine ⟨?_, ?_, ?_⟩
  · rw [al, ne (by omega), ne (by omega)]; exact World.cell?_setCell_same _ _ _ e0
  · rw [al, ne (by omega)]; exact World.cell?_setCell_same _ _ _ ((ne (by omega)).trans e1)
  · rw [al]; exact World.cell?_setCell_same _ _ _ ((ne (by omega)).trans ((ne (by omega)).trans e2))

set_option maxHeartbeats 2000000 in
set_option maxRecDepth 100000 in
theorem sb_any (s : ByteArray) (ws : List ByteArray) (v : Value) (w : World) (lo hi : Nat) (hw : Strs w lo hi v ws) (hhi : hi ≤ w.heap.size) (hs : s.size ≤ maxLen) (hss : ∀ x ∈ ws, x.size ≤ maxLen) (hl : ws.length ≤ maxLen) :
    Calls Tryz.prog 76 #[.string s, v] w fun e w' => e = .returned (.tuple #[.agg #[.int .u16 (sbX (sbO s ws)).tag, .int .u16 (sbX (sbO s ws)).del, .int .u32 (sbX (sbO s ws)).hgt], .bool (sbO s ws).isSome]) ∧ Below w.heap.size w w' := by
  obtain ⟨A, c, rfl⟩ : ∃ A c, v = .slice A ws.length c := by obtain ⟨A, c, rfl, _⟩ := hw; exact ⟨A, c, rfl⟩
  obtain ⟨w0, hw0⟩ : ∃ w0, w0 = w.alloc (.cells #[.int .u16 0, .int .u16 0, .int .u32 0] 101) := ⟨_, rfl⟩
  have z0 : w0.heap.size = w.heap.size + 1 := by rw [hw0]; simp
  have hb0 : Below w.heap.size w w0 := by rw [hw0]; exact (Below.refl _ _).alloc (Nat.le_refl _) _
  have hq0 : w0.heap[w.heap.size]? = some (.cells #[.int .u16 0, .int .u16 0, .int .u32 0] 101 (0, 0)) := by rw [hw0]; exact heap_alloc_new w _
  have CG := Lib.hid (lget_any s w0 hs)
  have CS := Lib.hid (fun W (hW : Below w0.heap.size w0 W) => signed_any ws _ W lo hi ((hw.keep (Kept.of_below hb0 hhi)).keep (Kept.of_below hW (by omega))) hss hl)
  have B0 := Lib.hid hb0
  have HW0 := Lib.hid hw0
  have HQ0 := Lib.hid hq0
  have RES := Lib.hid (show (sbO s ws = none → sbX (sbO s ws) = ⟨0, 0, 0⟩ ∧ (sbO s ws).isSome = false) from fun h => by rw [h]; exact ⟨rfl, rfl⟩)
  have nb := snN_bd ws
  have tb := snT_bd ws
  obtain ⟨m, hm⟩ : ∃ m : Nat, snN ws = (m : Int) := ⟨(snN ws).toNat, by omega⟩
  clear hw hs hss hl hb0 hw0 hq0
  go_enter Tryz.func76, Tryz.ntmps76
  go_upto_region 1 with (fail)
  rw [show World.alloc w _ = w0 from HW0.out.symm]
  go_wp2_with fail
  refine CG.out.mono ?_
  rintro e w1 ⟨vg, rfl, hbr, hb1⟩
  have hlen := gtR_len s
  obtain ⟨Ag, cg, rfl⟩ := hbr.form
  have HBR := Lib.hid hbr
  have K1 := Lib.hid (below_next B0.out (by omega) hb1)
  have CS1 := Lib.hid (CS.out w1 hb1)
  have q1 := (hb1.block w.heap.size (by omega)).trans HQ0.out
  have hlt1 : w.heap.size < w1.heap.size := by have := hb1.size; omega
  clear hbr hb1 CS CG
  go_wp2_with fail
  refine CS1.out.mono ?_
  rintro e wz ⟨rfl, rfl⟩
  clear CS1
  have e0 : w1.cell? ⟨w.heap.size, 0, none⟩ = some (.int .u16 0) := by rw [Lib.cell_of_heap q1]; rfl
  have e1 : w1.cell? ⟨w.heap.size, 1, none⟩ = some (.int .u16 0) := by rw [Lib.cell_of_heap q1]; rfl
  have e2 : w1.cell? ⟨w.heap.size, 2, none⟩ = some (.int .u32 0) := by rw [Lib.cell_of_heap q1]; rfl
  have f0 : w1.frozen? ⟨w.heap.size, 0, none⟩ = false := Lib.frozen_of_heap q1 0
  have f1 : w1.frozen? ⟨w.heap.size, 1, none⟩ = false := Lib.frozen_of_heap q1 1
  have f2 : w1.frozen? ⟨w.heap.size, 2, none⟩ = false := Lib.frozen_of_heap q1 2
  have PB := Lib.hid (fun (W : World) (hW : Below w.heap.size w W) a b c => ((hW.setCell (p := ⟨w.heap.size, 0, none⟩) (Nat.le_refl _) a).setCell (p := ⟨w.heap.size, 1, none⟩) (Nat.le_refl _) b).setCell (p := ⟨w.heap.size, 2, none⟩) (Nat.le_refl _) c)
  have PA := Lib.hid (fun a b c o => (PB.out w1 K1.out a b c).alloc (by simp; omega) o)
  have D3 := Lib.hid (fun a b c o => done3 a b c o hlt1 e0 e1 e2)
  obtain ⟨l, hle⟩ : ∃ l, (gtR s).length = l := ⟨_, rfl⟩
  rw [hle] at hlen ⊢
  rw [hm]
  by_cases hg : gtE s = 0
  · have g1 : (gtE s != 0) = false := by simp [hg]
    by_cases hn : snE ws = 0
    · have g2 : (snE ws != 0) = false := by simp [hn]
      by_cases hm3 : m < l
      · have g3 : ¬ (l : Int) ≤ (m : Int) := by omega
        have g4 : (m : Int) < (l : Int) := by omega
        obtain ⟨x, hx⟩ : ∃ x, (gtR s)[m]? = some x := ⟨_, List.getElem?_eq_getElem (by omega)⟩
        rw [hle] at HBR
        obtain ⟨b, off, rfl, _, hb2, c0, c1, c2⟩ := HBR.out.at hx
        have SB := Lib.hid (show sbO s ws = if fitB x (snT ws) = true then some x else none from by unfold sbO; rw [if_pos (snE_yes hn), hm, Int.toNat_natCast, hx]; rfl)
        clear hx hg hn q1
        by_cases ht : x.tag = 0
        · have t1 : (x.tag == 0) = true := by simp [ht]
          have FIN := Lib.hid (show sbO s ws = some x from by rw [SB.out, if_pos (by unfold fitB; rw [t1]; rfl)])
          clear ht
          go_wp2_with fail
          obtain ⟨d0, d1, d2⟩ := D3.out (.int .u16 x.tag) (.int .u16 x.del) (.int .u32 x.hgt) (.cells #[.int .u16 x.tag, .int .u16 x.del, .int .u32 x.hgt] 101)
          refine bodyPost_ret (v := .tuple #[.agg #[.int .u16 x.tag, .int .u16 x.del, .int .u32 x.hgt], .bool true]) (by simp [results, Tryz.results76, go_sem, d0, d1, d2]) rfl ?_
          exact ⟨by rw [FIN.out]; rfl, PA.out _ _ _ _⟩
        · have t1 : (x.tag == 0) = false := by simp [ht]
          by_cases ht2 : x.tag = snT ws
          · have t2 : (x.tag == snT ws) = true := by simp [ht2]
            have FIN := Lib.hid (show sbO s ws = some x from by rw [SB.out, if_pos (by unfold fitB; rw [t1, t2]; rfl)])
            clear ht ht2
            go_wp2_with fail
            obtain ⟨d0, d1, d2⟩ := D3.out (.int .u16 x.tag) (.int .u16 x.del) (.int .u32 x.hgt) (.cells #[.int .u16 x.tag, .int .u16 x.del, .int .u32 x.hgt] 101)
            refine bodyPost_ret (v := .tuple #[.agg #[.int .u16 x.tag, .int .u16 x.del, .int .u32 x.hgt], .bool true]) (by simp [results, Tryz.results76, go_sem, d0, d1, d2]) rfl ?_
            exact ⟨by rw [FIN.out]; rfl, PA.out _ _ _ _⟩
          · have t2 : (x.tag == snT ws) = false := by simp [ht2]
            have FIN := Lib.hid (RES.out (by rw [SB.out, if_neg (by unfold fitB; rw [t1, t2]; decide)]))
            clear ht ht2
            go_wp2_with fail
            obtain ⟨d0, d1, d2⟩ := D3.out (.int .u16 0) (.int .u16 0) (.int .u32 0) (.cells #[.int .u16 x.tag, .int .u16 x.del, .int .u32 x.hgt] 101)
            refine bodyPost_ret (v := .tuple #[.agg #[.int .u16 0, .int .u16 0, .int .u32 0], .bool false]) (by simp [results, Tryz.results76, go_sem, d0, d1, d2]) rfl ?_
            exact ⟨by rw [FIN.out.1, FIN.out.2], PA.out _ _ _ _⟩
      · have g3 : (l : Int) ≤ (m : Int) := by omega
        have FIN := Lib.hid (RES.out (by unfold sbO; rw [if_pos (snE_yes hn), hm, Int.toNat_natCast, List.getElem?_eq_none (by omega)]; rfl))
        clear hg hn
        go_wp2_with fail
        refine bodyPost_ret (v := .tuple #[.agg #[.int .u16 0, .int .u16 0, .int .u32 0], .bool false]) (by simp [results, Tryz.results76, go_sem, e0, e1, e2]) rfl ?_
        exact ⟨by rw [FIN.out.1, FIN.out.2], PB.out _ K1.out _ _ _⟩
    · have g2 : (snE ws != 0) = true := by simp [hn]
      have FIN := Lib.hid (RES.out (sb_not (snE_not hn)))
      clear hg hn
      go_wp2_with fail
      refine bodyPost_ret (v := .tuple #[.agg #[.int .u16 0, .int .u16 0, .int .u32 0], .bool false]) (by simp [results, Tryz.results76, go_sem, e0, e1, e2]) rfl ?_
      exact ⟨by rw [FIN.out.1, FIN.out.2], PB.out _ K1.out _ _ _⟩
  · have g1 : (gtE s != 0) = true := by simp [hg]
    have FIN := Lib.hid (RES.out (sb_err hg))
    clear hg
    go_wp2_with fail
    refine bodyPost_ret (v := .tuple #[.agg #[.int .u16 0, .int .u16 0, .int .u32 0], .bool false]) (by simp [results, Tryz.results76, go_sem, e0, e1, e2]) rfl ?_
    exact ⟨by rw [FIN.out.1, FIN.out.2], PB.out _ K1.out _ _ _⟩

end Go.Proofs.YtjclklppnkoehaaGreatDoor
