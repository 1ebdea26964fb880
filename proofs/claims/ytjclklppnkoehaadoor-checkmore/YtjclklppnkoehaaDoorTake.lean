/-
  The program's Take: a coin out of a set.
-/
import Derived.Test.YtjclklppnkoehaaDoorGet
namespace Go.Proofs.YtjclklppnkoehaaDoor.Co
open Go.RowKit Go.ChangeMaps
set_option maxRecDepth 100000

/-- What a look-up in a set reads, in any order. -/
theorem look_facts {W : World} {a b q : Nat} {l : List EnD} {p : ByteArray} {i : Int} (S : SetIs W a b l) (hp : PtOk p i) (p0 : W.cell? ⟨q, 0, none⟩ = some (.string p)) (p1 : W.cell? ⟨q, 1, none⟩ = some (.int .u32 i)) (hq : q < W.heap.size) :
    W.cell? ⟨a, 0, none⟩ = some (.map (some b)) ∧ (∀ o, (W.alloc o).cell? ⟨a, 0, none⟩ = some (.map (some b))) ∧ (∀ o, (W.alloc o).cell? ⟨q, 0, none⟩ = some (.string p)) ∧ (∀ o, (W.alloc o).cell? ⟨q, 1, none⟩ = some (.int .u32 i)) ∧
      (Instr.lookup 88 (.map (some b)) (.agg #[.string p, .int .u32 i]) true).run Tryd.prog W.drew = .ok (.tuple #[.agg #[.int .i64 (atE l p i).val, .string (atE l p i).scr, .int .i64 (atE l p i).ht], .bool (hasB l p i)]) W.drew ∧
      ∀ o, (Instr.lookup 88 (.map (some b)) (.agg #[.string p, .int .u32 i]) true).run Tryd.prog (W.alloc o).drew = .ok (.tuple #[.agg #[.int .i64 (atE l p i).val, .string (atE l p i).scr, .int .i64 (atE l p i).ht], .bool (hasB l p i)]) (W.alloc o).drew := by
  have ha := S.lta
  have hb := S.ltb
  refine ⟨S.cell0, fun o => ?_, fun o => ?_, fun o => ?_, ?_, fun o => ?_⟩
  · rw [World.cell?_alloc_lt _ _ _ (by show a < _; omega)]; exact S.cell0
  · rw [World.cell?_alloc_lt _ _ _ (by show q < _; omega)]; exact p0
  · rw [World.cell?_alloc_lt _ _ _ (by show q < _; omega)]; exact p1
  · exact (show MapIs W.drew b l from S.map).look S.good hp
  · exact (show MapIs (W.alloc o).drew b l from show MapIs (W.alloc o) b l from S.map.keep (Below.heap_alloc _ _ _ hb)).look S.good hp

/-- A coin's box, the newest block. -/
theorem co_box (W : World) (v : Int) (s : ByteArray) (t : Int) : ∃ W2, W2 = (W.alloc (.cells #[.int .i64 v, .string s, .int .i64 t] 50)).drew ∧ Below W.heap.size W W2 ∧ W2.heap.size = W.heap.size + 1 ∧
    W2.cell? ⟨W.heap.size, 0, none⟩ = some (.int .i64 v) ∧ W2.cell? ⟨W.heap.size, 1, none⟩ = some (.string s) ∧ W2.cell? ⟨W.heap.size, 2, none⟩ = some (.int .i64 t) := by
  have hn : (W.alloc (.cells #[.int .i64 v, .string s, .int .i64 t] 50)).heap[W.heap.size]? = some (.cells #[.int .i64 v, .string s, .int .i64 t] 50) := heap_alloc_new _ _
  exact ⟨_, rfl, ((Below.refl _ _).alloc (Nat.le_refl _) _).drew, by simp, cell_in (w := World.drew _) (o := 0) hn rfl, cell_in (w := World.drew _) (o := 1) hn rfl, cell_in (w := World.drew _) (o := 2) hn rfl⟩
theorem co_new (w : World) (v : Int) (s : ByteArray) (t : Int) : (w.alloc (.cells #[.int .i64 v, .string s, .int .i64 t] 50)).cell? ⟨w.heap.size, 0, none⟩ = some (.int .i64 v) ∧ (w.alloc (.cells #[.int .i64 v, .string s, .int .i64 t] 50)).cell? ⟨w.heap.size, 1, none⟩ = some (.string s) ∧
    (w.alloc (.cells #[.int .i64 v, .string s, .int .i64 t] 50)).cell? ⟨w.heap.size, 2, none⟩ = some (.int .i64 t) := by
  have hn : (w.alloc (.cells #[.int .i64 v, .string s, .int .i64 t] 50)).heap[w.heap.size]? = some (.cells #[.int .i64 v, .string s, .int .i64 t] 50) := heap_alloc_new _ _
  exact ⟨cell_in (o := 0) hn rfl, cell_in (o := 1) hn rfl, cell_in (o := 2) hn rfl⟩
/-- A block of three free cells. -/
structure Co3 (w : World) (n : Nat) : Prop where
  lt : n < w.heap.size
  z0 : ∃ v, w.cell? ⟨n, 0, none⟩ = some v
  z1 : ∃ v, w.cell? ⟨n, 1, none⟩ = some v
  z2 : ∃ v, w.cell? ⟨n, 2, none⟩ = some v
  fr : ∀ k, w.frozen? ⟨n, k, none⟩ = false
theorem Co3.new (w : World) (v : Int) (s : ByteArray) (t : Int) : Co3 (w.alloc (.cells #[.int .i64 v, .string s, .int .i64 t] 50)) w.heap.size := by
  obtain ⟨h0, h1, h2⟩ := co_new w v s t
  exact ⟨by simp, ⟨_, h0⟩, ⟨_, h1⟩, ⟨_, h2⟩, fun k => Lib.frozen_of_heap (heap_alloc_new w (.cells #[.int .i64 v, .string s, .int .i64 t] 50)) k⟩
theorem Co3.keep {w w' : World} {n : Nat} (h : Co3 w n) (hk : w'.heap[n]? = w.heap[n]?) (hs : w.heap.size ≤ w'.heap.size) : Co3 w' n :=
  ⟨Nat.lt_of_lt_of_le h.lt hs, by rw [World.cell?_of_block (w := w) hk]; exact h.z0, by rw [World.cell?_of_block (w := w) hk]; exact h.z1, by rw [World.cell?_of_block (w := w) hk]; exact h.z2, fun k => by rw [World.frozen?_of_block (w := w) hk]; exact h.fr k⟩

theorem set_tot {w : World} {a b : Nat} {t : Int} (h : w.heap[a]? = some (.cells #[.map (some b), .int .i64 t] 90 (0, 0))) (n : Int) : (w.setCell ⟨a, 1, none⟩ (.int .i64 n)).heap[a]? = some (.cells #[.map (some b), .int .i64 n] 90 (0, 0)) := by
  simp [World.setCell, Array.getElem?_modify, h]

set_option maxHeartbeats 2000000 in
theorem take_any (a b : Nat) (l : List EnD) (p : ByteArray) (i : Int) (w : World) (h : SetIs w a b l) (hp : PtOk p i) :
    Calls Tryd.prog 12 #[.pointer (some ⟨a, 0, none⟩), .agg #[.string p, .int .u32 i]] w fun e w' => e = .returned (.tuple #[.agg #[.int .i64 (atE l p i).val, .string (atE l p i).scr, .int .i64 (atE l p i).ht], .int .i64 (takeE l p i)]) ∧ SetIs w' a b (delL l p i) ∧ But2 a b w w' := by
  have la := h.lta
  have lb := h.ltb
  obtain ⟨w1, hw1⟩ : ∃ w1, w1 = w.alloc (.cells #[.string p, .int .u32 i] 43) := ⟨_, rfl⟩
  have hz1 : w1.heap.size = w.heap.size + 1 := by rw [hw1]; simp
  have hb1 : Below w.heap.size w w1 := by rw [hw1]; exact (Below.refl _ _).alloc (Nat.le_refl _) _
  obtain ⟨W, hW⟩ : ∃ W, W = w1.alloc (.cells #[.int .i64 0, .string ⟨#[]⟩, .int .i64 0] 50) := ⟨_, rfl⟩
  have hz : W.heap.size = w.heap.size + 2 := by rw [hW]; simp [hz1]
  have hBW : Below w.heap.size w W := by rw [hW]; exact hb1.alloc (by omega) _
  have hS := h.below hBW la lb
  have h28 : W.heap[w.heap.size]? = some (.cells #[.string p, .int .u32 i] 43) := by rw [hW, Below.heap_alloc _ _ _ (by omega), hw1]; exact heap_alloc_new _ _
  have p0 : W.cell? ⟨w.heap.size, 0, none⟩ = some (.string p) := cell_in (o := 0) h28 rfl
  have p1 : W.cell? ⟨w.heap.size, 1, none⟩ = some (.int .u32 i) := cell_in (o := 1) h28 rfl
  have hC : Co3 W (w.heap.size + 1) := by rw [hW, ← hz1]; exact Co3.new _ _ _ _
  obtain ⟨c0, c0a, p0a, p1a, r0, r1⟩ := look_facts hS hp p0 p1 (by omega)
  obtain ⟨W2, hW2, hb2, hz2, y0, y1, y2⟩ := co_box W (atE l p i).val (atE l p i).scr (atE l p i).ht
  have hS2 := hS.below hb2 (by omega) (by omega)
  have hC2 := hC.keep (hb2.block _ (by omega)) hb2.size
  have hd : W2.cell? ⟨w.heap.size, 0, none⟩ = some (.string p) := (World.cell?_of_block (w := W) (hb2.block _ (by show w.heap.size < _; omega))).trans p0
  have hd1 : W2.cell? ⟨w.heap.size, 1, none⟩ = some (.int .u32 i) := (World.cell?_of_block (w := W) (hb2.block _ (by show w.heap.size < _; omega))).trans p1
  have hBW2 := below_next hBW (by omega) hb2
  have HW := Lib.hid (show W = (w.alloc (.cells #[.string p, .int .u32 i] 43)).alloc (.cells #[.int .i64 0, .string ⟨#[]⟩, .int .i64 0] 50) from by rw [hW, hw1])
  have HS := Lib.hid h
  have HP := Lib.hid hp
  have HS2 := Lib.hid hS2
  have HC2 := Lib.hid hC2
  have HB2 := Lib.hid hBW2
  have HW2 := Lib.hid hW2
  obtain ⟨y, hy⟩ : ∃ y, y = atE l p i := ⟨_, rfl⟩
  obtain ⟨q, hq⟩ : ∃ q, q = hasB l p i := ⟨_, rfl⟩
  have HY := Lib.hid hy
  have HQ := Lib.hid hq
  have HT : Hid (takeE l p i = if q = true then 0 else 8) := Lib.hid (by rw [hq]; rfl)
  rw [← hy, ← hq] at r0 r1
  rw [← hy] at HW2 y0 y1 y2 ⊢
  rw [hz] at y0 y1 y2
  have hz2' : W2.heap.size = w.heap.size + 3 := by omega
  obtain ⟨yi, yx, v, s, t⟩ := y
  simp only at r0 r1 HW2 y0 y1 y2 ⊢
  have HZ := Lib.hid (And.intro hz (And.intro hz2' (And.intro la lb)))
  clear h hp hS hBW hW hW2 hS2 hC hC2 hBW2 hb2 hz2 hz1 hb1 hw1 h28 hy hq
  go_enter Tryd.func12, Tryd.ntmps12
  go_upto_region 1 with (fail)
  rw [show World.alloc (World.alloc w _) _ = W from HW.out.symm]
  go_wp2_with fail
  go_region
  rw [show World.drew (World.alloc W _) = W2 from HW2.out.symm]
  clear r0 r1 c0 c0a p0 p1 p0a p1a hz hz2' HW HW2
  cases q with
  | false =>
    obtain ⟨_, z0⟩ := HC2.out.z0
    obtain ⟨_, z1⟩ := HC2.out.z1
    obtain ⟨_, z2⟩ := HC2.out.z2
    have zf := HC2.out.fr
    clear y0 y1 y2 hd hd1
    go_wp2_with fail
    obtain ⟨W3, hW3⟩ : ∃ W3, W3 = setCo W2 (w.heap.size + 1) 0 ⟨#[]⟩ 0 := ⟨_, rfl⟩
    obtain ⟨q0, q1, q2⟩ := setCo_cells z0 z1 z2 0 ⟨#[]⟩ 0
    have N3 := Lib.hid (setCo_below (Below.refl (w.heap.size + 1) W2) (Nat.le_refl _) 0 ⟨#[]⟩ 0)
    unfold setCo at hW3 q0 q1 q2 N3
    rw [← hW3] at q0 q1 q2 N3 ⊢
    refine bodyPost_ret (v := .tuple #[.agg #[.int .i64 0, .string ⟨#[]⟩, .int .i64 0], .int .i64 8]) (by simp [results, Tryd.results12, go_sem, q0, q1, q2]) rfl ?_
    have hn : hasB l p i = false := HQ.out.symm
    have hy := HY.out
    rw [atE_none hn] at hy
    obtain ⟨e1, e2, e3, e4, e5⟩ : yi = ⟨#[]⟩ ∧ yx = 0 ∧ v = 0 ∧ s = ⟨#[]⟩ ∧ t = 0 := by
      unfold e0 at hy
      injection hy with g1 g2 g3 g4 g5
      exact ⟨g1, g2, g3, g4, g5⟩
    have hl := HZ.out
    refine ⟨by rw [HT.out, e3, e4, e5]; rfl, ?_, ?_⟩
    · rw [del_none hn]
      exact HS2.out.below N3.out (by omega) (by omega)
    · exact But2.of_below ((HB2.out.trans (N3.out.mono (by omega))))
  | true =>
    have c0 := HS2.out.cell0
    obtain ⟨o1, rd, hm⟩ := HS2.out.map.drop HS2.out.good HP.out HQ.out.symm 0
    have rd' := rd W2.drew rfl
    have HM := Lib.hid hm
    clear rd hm
    go_wp2_with fail
    go_region
    have hl := HZ.out
    have hne := HS2.out.ne
    obtain ⟨W4, hW4⟩ : ∃ W4, W4 = setBlock W2.drew b o1 := ⟨_, rfl⟩
    rw [← hW4]
    have hz4 : W4.heap.size = W2.heap.size := by rw [hW4]; exact set_size _ _ _
    have oth : ∀ k, k ≠ b → W4.heap[k]? = W2.heap[k]? := fun k hk => by rw [hW4]; exact set_heap_other (w := W2.drew) o1 hk
    have hm4 : MapIs W4 b (delL l p i) := HM.out W4 (by rw [hW4]; exact set_heap_at _ (by show b < W2.heap.size; omega))
    have c1 : W4.cell? ⟨a, 1, none⟩ = some (.int .i64 (tot l)) := (World.cell?_of_block (w := W2) (oth a hne)).trans HS2.out.cell1
    have f1 : W4.frozen? ⟨a, 1, none⟩ = false := (World.frozen?_of_block (w := W2) (oth a hne)).trans (HS2.out.free 1)
    have t0 : W4.cell? ⟨w.heap.size + 2, 0, none⟩ = some (.int .i64 v) := (World.cell?_of_block (w := W2) (oth _ (by show w.heap.size + 2 ≠ b; omega))).trans y0
    have hin := atE_mem HQ.out.symm
    have hgt := del_tot HS2.out.good.srt.apart hin.1
    rw [hin.2.1, hin.2.2, ← HY.out] at hgt
    have hwr : IntKind.i64.wrap (tot l - v) = tot (delL l p i) := by
      rw [hgt]
      refine IntWalk.i64_in _ ?_
      have h1 := HS2.out.good.zero
      have h2 := HS2.out.good.most
      have h3 := HS2.out.good.pos _ hin.1
      rw [← HY.out] at h3
      simp only at h3
      have h4 := tot_pos (fun x hx => HS2.out.good.pos x (List.mem_filter.1 hx).1 : ∀ x ∈ delL l p i, 0 ≤ x.val)
      rw [hgt] at h4
      simp only at h4
      omega
    have HG := Lib.hid hm4
    have HO := Lib.hid oth
    have HA4 := Lib.hid hW4
    have HIN := Lib.hid hin
    have nlt : Hid (a < w.heap.size ∧ b < w.heap.size) := Lib.hid ⟨hl.2.2.1, hl.2.2.2⟩
    have HNE := Lib.hid hne
    obtain ⟨nt, hnt⟩ : ∃ nt, nt = tot (delL l p i) := ⟨_, rfl⟩
    have HNT := Lib.hid hnt
    rw [← hnt] at hwr
    obtain ⟨tl, htl⟩ : ∃ tl, tl = tot l := ⟨_, rfl⟩
    rw [← htl] at hwr c1
    have HYY := Lib.hid (And.intro y0 (And.intro y1 y2))
    clear hl hm4 oth hW4 hin hgt hne rd' c0 hd hd1 y0 y1 y2 hnt htl HM
    go_wp2_with fail
    go_region
    have hl := HZ.out
    obtain ⟨W5, hW5⟩ : ∃ W5, W5 = (W4.setCell ⟨a, 1, none⟩ (.int .i64 nt)).drew := ⟨_, rfl⟩
    rw [← hW5]
    have hz5 : W5.heap.size = W2.heap.size := by rw [hW5]; exact (World.size_setCell _ _ _).trans hz4
    have oth5 : ∀ k, k ≠ a → W5.heap[k]? = W4.heap[k]? := fun k hk => by rw [hW5]; exact Below.heap_setCell W4 ⟨a, 1, none⟩ _ k (by exact hk)
    have oth2 : ∀ k, k ≠ a → k ≠ b → W5.heap[k]? = W2.heap[k]? := fun k h1 h2 => (oth5 k h1).trans (HO.out k h2)
    have S5 : SetIs W5 a b (delL l p i) := ⟨HNE.out, by
      rw [hW5, ← HNT.out]
      exact set_tot (w := W4) (t := tot l) ((HO.out a HNE.out).trans HS2.out.blk) nt, HG.out.keep (oth5 b (fun e => HNE.out e.symm)), HS2.out.good.del p i⟩
    have C5 : Co3 W5 (w.heap.size + 1) := HC2.out.keep (oth2 _ (by omega) (by omega)) (by omega)
    have m2 : W5.heap[w.heap.size + 2]? = W2.heap[w.heap.size + 2]? := oth2 _ (by omega) (by omega)
    have x0 : W5.cell? ⟨w.heap.size + 2, 0, none⟩ = some (.int .i64 v) := (World.cell?_of_block (w := W2) m2).trans HYY.out.1
    have x1 : W5.cell? ⟨w.heap.size + 2, 1, none⟩ = some (.string s) := (World.cell?_of_block (w := W2) m2).trans HYY.out.2.1
    have x2 : W5.cell? ⟨w.heap.size + 2, 2, none⟩ = some (.int .i64 t) := (World.cell?_of_block (w := W2) m2).trans HYY.out.2.2
    have K5 := Lib.hid (show But2 a b W2 W5 from ⟨by rw [hW5, HA4.out]; rfl, by rw [hW5, HA4.out]; rfl, by rw [hW5, HA4.out]; rfl, by omega, fun k _ h1 h2 => oth2 k h1 h2⟩)
    have HS5 := Lib.hid S5
    obtain ⟨_, z0⟩ := C5.z0
    obtain ⟨_, z1⟩ := C5.z1
    obtain ⟨_, z2⟩ := C5.z2
    have zf := C5.fr
    have HZ5 := Lib.hid hz5
    clear oth5 oth2 S5 C5 m2 hW5 hz4 hz5 f1 t0 c1 hwr hl
    go_wp2_with fail
    obtain ⟨W6, hW6⟩ : ∃ W6, W6 = setCo W5 (w.heap.size + 1) v s t := ⟨_, rfl⟩
    obtain ⟨q0, q1, q2⟩ := setCo_cells z0 z1 z2 v s t
    have N6 := Lib.hid (setCo_below (Below.refl (w.heap.size + 1) W5) (Nat.le_refl _) v s t)
    unfold setCo at hW6 q0 q1 q2 N6
    rw [← hW6] at q0 q1 q2 N6 ⊢
    refine bodyPost_ret (v := .tuple #[.agg #[.int .i64 v, .string s, .int .i64 t], .int .i64 0]) (by simp [results, Tryd.results12, go_sem, q0, q1, q2]) rfl ?_
    have hl := HZ.out
    have hz5 := HZ5.out
    refine ⟨by rw [HT.out]; rfl, HS5.out.below N6.out (by omega) (by omega), ?_⟩
    have B5 := (But2.of_below HB2.out (a := a) (b := b)).trans K5.out
    exact ⟨N6.out.os.trans B5.os, N6.out.tape.trans B5.tape, N6.out.output.trans B5.output, Nat.le_trans B5.size N6.out.size, fun k hk h1 h2 => (N6.out.block k (by omega)).trans (B5.block k hk h1 h2)⟩

end Go.Proofs.YtjclklppnkoehaaDoor.Co
