/-
  Points and coins held against one another.
  The program's Get: the coin at a point.
  The program's Take: a coin out of a set.
  The program's Put: a coin into a set.
  Entries held against one another; a list put into a set from its end.
-/
import Derived.Test.YtnmfjnfdnjjngaaGreatDoorMDat
import Derived.RegionTactic
import Derived.BigRegion
import Derived.Deep.CutBlock

namespace Go.Proofs.YtnmfjnfdnjjngaaGreatDoor.Co
open Go.RowKit
set_option maxRecDepth 100000

theorem run_eql_pt (w : World) (a : ByteArray) (i : Int) (b : ByteArray) (j : Int) :
    (binOp .eql 60 (.agg #[.string a, .int .u32 i]) (.agg #[.string b, .int .u32 j])).run Tryz.prog w = .ok (.bool (ptB a i b j)) w := by
  have u9 := Tryz.underlying9
  have u22 := Tryz.underlying47
  have a9 := Tryz.isAgg9
  have z9 := Tryz.sizeOf9
  have a22 := Tryz.isAgg47
  have z22 := Tryz.sizeOf47
  have hS : Tryz.prog.underlying 60 = some (.struct (Tryz.prog.fieldsOf 60)) := by kernel_rfl
  have hp : Tryz.prog.stoodInHeld 60 = false := by kernel_rfl
  rw [run_eql_struct, show (10000 : Nat) = 9999 + 1 from rfl, run_equalIn_agg w 9999 60 _ _ hS hp]
  simp only [Program.fieldsOf, Tryz.underlying60]
  go_simp
  unfold ptB
  by_cases h1 : a.toList = b.toList <;> by_cases h2 : i = j <;> simp [h1, h2]

theorem run_neq_pt (w : World) (a : ByteArray) (i : Int) (b : ByteArray) (j : Int) :
    (binOp .neq 60 (.agg #[.string a, .int .u32 i]) (.agg #[.string b, .int .u32 j])).run Tryz.prog w = .ok (.bool !(ptB a i b j)) w := by
  have u9 := Tryz.underlying9
  have u22 := Tryz.underlying47
  have a9 := Tryz.isAgg9
  have z9 := Tryz.sizeOf9
  have a22 := Tryz.isAgg47
  have z22 := Tryz.sizeOf47
  have hS : Tryz.prog.underlying 60 = some (.struct (Tryz.prog.fieldsOf 60)) := by kernel_rfl
  have hp : Tryz.prog.stoodInHeld 60 = false := by kernel_rfl
  rw [run_neq_struct, show (10000 : Nat) = 9999 + 1 from rfl, run_equalIn_agg w 9999 60 _ _ hS hp]
  simp only [Program.fieldsOf, Tryz.underlying60]
  go_simp
  unfold ptB
  by_cases h1 : a.toList = b.toList <;> by_cases h2 : i = j <;> simp [h1, h2]

/-- Are two coins one? -/
def coB (v : Int) (s : ByteArray) (t : Int) (v' : Int) (s' : ByteArray) (t' : Int) : Bool := ((v == v') && (s.toList == s'.toList)) && (t == t')
theorem coB_refl (v : Int) (s : ByteArray) (t : Int) : coB v s t v s t = true := by simp [coB]

theorem run_eql_co (w : World) (v : Int) (s : ByteArray) (t : Int) (v' : Int) (s' : ByteArray) (t' : Int) :
    (binOp .eql 64 (.agg #[.int .i64 v, .string s, .int .i64 t]) (.agg #[.int .i64 v', .string s', .int .i64 t'])).run Tryz.prog w = .ok (.bool (coB v s t v' s' t')) w := by
  have u9 := Tryz.underlying9
  have u3 := Tryz.underlying3
  have a9 := Tryz.isAgg9
  have z9 := Tryz.sizeOf9
  have a3 := Tryz.isAgg3
  have z3 := Tryz.sizeOf3
  have a33 := Tryz.isAgg62
  have z33 := Tryz.sizeOf62
  have hS : Tryz.prog.underlying 64 = some (.struct (Tryz.prog.fieldsOf 64)) := by kernel_rfl
  have hp : Tryz.prog.stoodInHeld 64 = false := by kernel_rfl
  have hS' : Tryz.prog.underlying 62 = some (.struct (Tryz.prog.fieldsOf 62)) := by kernel_rfl
  have hp' : Tryz.prog.stoodInHeld 62 = false := by kernel_rfl
  have hE : ∀ W : World, (Op.equalIn 9999 62 (.agg #[.int .i64 v, .string s]) (.agg #[.int .i64 v', .string s'])).run Tryz.prog W = .ok ((v == v') && (s.toList == s'.toList)) W := fun W => by
    rw [show (9999 : Nat) = 9998 + 1 from rfl, run_equalIn_agg W 9998 62 _ _ hS' hp']
    simp only [Program.fieldsOf, Tryz.underlying62]
    go_simp
    by_cases h1 : v = v' <;> by_cases h2 : s.toList = s'.toList <;> simp [h1, h2]
  rw [run_eql_struct, show (10000 : Nat) = 9999 + 1 from rfl, run_equalIn_agg w 9999 64 _ _ hS hp]
  simp only [Program.fieldsOf, Tryz.underlying64]
  go_simp
  unfold coB
  by_cases h1 : v = v' <;> by_cases h2 : s.toList = s'.toList <;> by_cases h3 : t = t' <;> simp [h1, h2, h3]

theorem run_neq_co (w : World) (v : Int) (s : ByteArray) (t : Int) (v' : Int) (s' : ByteArray) (t' : Int) :
    (binOp .neq 64 (.agg #[.int .i64 v, .string s, .int .i64 t]) (.agg #[.int .i64 v', .string s', .int .i64 t'])).run Tryz.prog w = .ok (.bool !(coB v s t v' s' t')) w := by
  have u9 := Tryz.underlying9
  have u3 := Tryz.underlying3
  have a9 := Tryz.isAgg9
  have z9 := Tryz.sizeOf9
  have a3 := Tryz.isAgg3
  have z3 := Tryz.sizeOf3
  have a33 := Tryz.isAgg62
  have z33 := Tryz.sizeOf62
  have hS : Tryz.prog.underlying 64 = some (.struct (Tryz.prog.fieldsOf 64)) := by kernel_rfl
  have hp : Tryz.prog.stoodInHeld 64 = false := by kernel_rfl
  have hS' : Tryz.prog.underlying 62 = some (.struct (Tryz.prog.fieldsOf 62)) := by kernel_rfl
  have hp' : Tryz.prog.stoodInHeld 62 = false := by kernel_rfl
  have hE : ∀ W : World, (Op.equalIn 9999 62 (.agg #[.int .i64 v, .string s]) (.agg #[.int .i64 v', .string s'])).run Tryz.prog W = .ok ((v == v') && (s.toList == s'.toList)) W := fun W => by
    rw [show (9999 : Nat) = 9998 + 1 from rfl, run_equalIn_agg W 9998 62 _ _ hS' hp']
    simp only [Program.fieldsOf, Tryz.underlying62]
    go_simp
    by_cases h1 : v = v' <;> by_cases h2 : s.toList = s'.toList <;> simp [h1, h2]
  rw [run_neq_struct, show (10000 : Nat) = 9999 + 1 from rfl, run_equalIn_agg w 9999 64 _ _ hS hp]
  simp only [Program.fieldsOf, Tryz.underlying64]
  go_simp
  unfold coB
  by_cases h1 : v = v' <;> by_cases h2 : s.toList = s'.toList <;> by_cases h3 : t = t' <;> simp [h1, h2, h3]

theorem pt_guard (op : BinOp) (x y : Operand) (a : Array Value) (b : Array Value) (w : World) : (eqGuard op 60 x y (.agg a) (.agg b)).run Tryz.prog w = .ok () w := run_eqGuard_agg w op 60 x y a b (by kernel_rfl)
theorem co_guard (op : BinOp) (x y : Operand) (a : Array Value) (b : Array Value) (w : World) : (eqGuard op 64 x y (.agg a) (.agg b)).run Tryz.prog w = .ok () w := run_eqGuard_agg w op 64 x y a b (by kernel_rfl)

end Go.Proofs.YtnmfjnfdnjjngaaGreatDoor.Co

namespace Go.Proofs.YtnmfjnfdnjjngaaGreatDoor.Co
open Go.RowKit
set_option maxRecDepth 100000

set_option maxHeartbeats 1000000 in
theorem get_any (a b : Nat) (l : List EnD) (p : ByteArray) (i : Int) (w : World) (h : SetIs w a b l) (hp : PtOk p i) :
    Calls Tryz.prog 41 #[.pointer (some ⟨a, 0, none⟩), .agg #[.string p, .int .u32 i]] w fun e w' => e = .returned (.tuple #[.agg #[.int .i64 (atE l p i).val, .string (atE l p i).scr, .int .i64 (atE l p i).ht], .bool (hasB l p i)]) ∧ Below w.heap.size w w' := by
  have la := h.lta
  have lb := h.ltb
  obtain ⟨W, hW⟩ : ∃ W, W = (w.alloc (.cells #[.string p, .int .u32 i] 60)).alloc (.cells #[.int .i64 0, .string ⟨#[]⟩, .int .i64 0] 64) := ⟨_, rfl⟩
  have hz : W.heap.size = w.heap.size + 2 := by rw [hW]; simp
  have hBW : Below w.heap.size w W := by rw [hW]; exact ((Below.refl _ _).alloc (Nat.le_refl _) _).alloc (by simp) _
  have hS := h.below hBW la lb
  have c0 := hS.cell0
  have hla : a < W.heap.size := by omega
  have hlw : w.heap.size < W.heap.size := by omega
  have p0 : W.cell? ⟨w.heap.size, 0, none⟩ = some (.string p) := by rw [hW]; simp
  have p1 : W.cell? ⟨w.heap.size, 1, none⟩ = some (.int .u32 i) := by rw [hW]; simp
  have c0a : ∀ o, (W.alloc o).cell? ⟨a, 0, none⟩ = some (.map (some b)) := fun o => by rw [World.cell?_alloc_lt _ _ _ (by show a < _; omega)]; exact c0
  have p0a : ∀ o, (W.alloc o).cell? ⟨w.heap.size, 0, none⟩ = some (.string p) := fun o => by rw [World.cell?_alloc_lt _ _ _ (by show w.heap.size < _; omega)]; exact p0
  have p1a : ∀ o, (W.alloc o).cell? ⟨w.heap.size, 1, none⟩ = some (.int .u32 i) := fun o => by rw [World.cell?_alloc_lt _ _ _ (by show w.heap.size < _; omega)]; exact p1
  have Z := Lib.hid (show ∀ v s t, ∃ W2, W2 = (W.alloc (.cells #[.int .i64 v, .string s, .int .i64 t] 64)).drew ∧ Below w.heap.size w W2 ∧
      W2.cell? ⟨w.heap.size + 2, 0, none⟩ = some (.int .i64 v) ∧ W2.cell? ⟨w.heap.size + 2, 1, none⟩ = some (.string s) ∧ W2.cell? ⟨w.heap.size + 2, 2, none⟩ = some (.int .i64 t) ∧
      W2.cell? ⟨w.heap.size + 1, 0, none⟩ = some (.int .i64 0) ∧ W2.cell? ⟨w.heap.size + 1, 1, none⟩ = some (.string ⟨#[]⟩) ∧ W2.cell? ⟨w.heap.size + 1, 2, none⟩ = some (.int .i64 0) ∧ ∀ k, W2.frozen? ⟨w.heap.size + 1, k, none⟩ = false from fun v s t => by
    have hn : (W.alloc (.cells #[.int .i64 v, .string s, .int .i64 t] 64)).heap[w.heap.size + 2]? = some (.cells #[.int .i64 v, .string s, .int .i64 t] 64) := by rw [← hz]; exact heap_alloc_new _ _
    have ho : (W.alloc (.cells #[.int .i64 v, .string s, .int .i64 t] 64)).heap[w.heap.size + 1]? = some (.cells #[.int .i64 0, .string ⟨#[]⟩, .int .i64 0] 64) := by
      rw [Below.heap_alloc _ _ _ (by omega), hW, show w.heap.size + 1 = (w.alloc (.cells #[.string p, .int .u32 i] 60)).heap.size from by simp]
      exact heap_alloc_new _ _
    exact ⟨_, rfl, (hBW.alloc (by omega) _).drew, cell_in (w := World.drew _) (o := 0) hn rfl, cell_in (w := World.drew _) (o := 1) hn rfl, cell_in (w := World.drew _) (o := 2) hn rfl, cell_in (w := World.drew _) (o := 0) ho rfl, cell_in (w := World.drew _) (o := 1) ho rfl, cell_in (w := World.drew _) (o := 2) ho rfl, fun k => Lib.frozen_of_heap (w := World.drew _) ho k⟩)
  have r0 := (show MapIs W.drew b l from hS.map).look hS.good hp
  have r1 := fun o => (show MapIs (W.alloc o).drew b l from show MapIs (W.alloc o) b l from hS.map.keep (Below.heap_alloc _ _ _ (by omega))).look hS.good hp
  have HW := Lib.hid hW
  generalize atE l p i = y at r0 r1 ⊢
  generalize hasB l p i = q at r0 r1 ⊢
  obtain ⟨yi, yx, v, s, t⟩ := y
  simp only at r0 r1 ⊢
  clear h hp hS hBW hW
  go_enter Tryz.func41, Tryz.ntmps41
  go_upto_region 1 with (fail)
  rw [show World.alloc (World.alloc w _) _ = W from HW.out.symm]
  go_wp2_with fail
  go_region
  obtain ⟨W2, hW2, hb2, y0, y1, y2, z0, z1, z2, zf⟩ := Z.out v s t
  rw [← hW2]
  have B2 := Lib.hid hb2
  clear Z hW2 hb2 r0 r1 c0 c0a p0 p1 p0a p1a hz hla hlw HW
  go_wp2_with fail
  obtain ⟨W3, hW3⟩ : ∃ W3, W3 = setCo W2 (w.heap.size + 1) v s t := ⟨_, rfl⟩
  obtain ⟨q0, q1, q2⟩ := setCo_cells z0 z1 z2 v s t
  have B3 := Lib.hid (setCo_below B2.out (by omega : w.heap.size ≤ w.heap.size + 1) v s t)
  unfold setCo at hW3 q0 q1 q2 B3
  rw [← hW3] at q0 q1 q2 B3 ⊢
  refine bodyPost_ret (v := .tuple #[.agg #[.int .i64 v, .string s, .int .i64 t], .bool q]) (by simp [results, Tryz.results41, go_sem, q0, q1, q2]) rfl ?_
  exact ⟨rfl, B3.out⟩

end Go.Proofs.YtnmfjnfdnjjngaaGreatDoor.Co

namespace Go.Proofs.YtnmfjnfdnjjngaaGreatDoor.Co
open Go.RowKit Go.ChangeMaps
set_option maxRecDepth 100000

/-- What a look-up in a set reads, in any order. -/
theorem look_facts {W : World} {a b q : Nat} {l : List EnD} {p : ByteArray} {i : Int} (S : SetIs W a b l) (hp : PtOk p i) (p0 : W.cell? ⟨q, 0, none⟩ = some (.string p)) (p1 : W.cell? ⟨q, 1, none⟩ = some (.int .u32 i)) (hq : q < W.heap.size) :
    W.cell? ⟨a, 0, none⟩ = some (.map (some b)) ∧ (∀ o, (W.alloc o).cell? ⟨a, 0, none⟩ = some (.map (some b))) ∧ (∀ o, (W.alloc o).cell? ⟨q, 0, none⟩ = some (.string p)) ∧ (∀ o, (W.alloc o).cell? ⟨q, 1, none⟩ = some (.int .u32 i)) ∧
      (Instr.lookup 76 (.map (some b)) (.agg #[.string p, .int .u32 i]) true).run Tryz.prog W.drew = .ok (.tuple #[.agg #[.int .i64 (atE l p i).val, .string (atE l p i).scr, .int .i64 (atE l p i).ht], .bool (hasB l p i)]) W.drew ∧
      ∀ o, (Instr.lookup 76 (.map (some b)) (.agg #[.string p, .int .u32 i]) true).run Tryz.prog (W.alloc o).drew = .ok (.tuple #[.agg #[.int .i64 (atE l p i).val, .string (atE l p i).scr, .int .i64 (atE l p i).ht], .bool (hasB l p i)]) (W.alloc o).drew := by
  have ha := S.lta
  have hb := S.ltb
  refine ⟨S.cell0, fun o => ?_, fun o => ?_, fun o => ?_, ?_, fun o => ?_⟩
  · rw [World.cell?_alloc_lt _ _ _ (by show a < _; omega)]; exact S.cell0
  · rw [World.cell?_alloc_lt _ _ _ (by show q < _; omega)]; exact p0
  · rw [World.cell?_alloc_lt _ _ _ (by show q < _; omega)]; exact p1
  · exact (show MapIs W.drew b l from S.map).look S.good hp
  · exact (show MapIs (W.alloc o).drew b l from show MapIs (W.alloc o) b l from S.map.keep (Below.heap_alloc _ _ _ hb)).look S.good hp

/-- A coin's box, the newest block. -/
theorem co_box (W : World) (v : Int) (s : ByteArray) (t : Int) : ∃ W2, W2 = (W.alloc (.cells #[.int .i64 v, .string s, .int .i64 t] 64)).drew ∧ Below W.heap.size W W2 ∧ W2.heap.size = W.heap.size + 1 ∧
    W2.cell? ⟨W.heap.size, 0, none⟩ = some (.int .i64 v) ∧ W2.cell? ⟨W.heap.size, 1, none⟩ = some (.string s) ∧ W2.cell? ⟨W.heap.size, 2, none⟩ = some (.int .i64 t) := by
  have hn : (W.alloc (.cells #[.int .i64 v, .string s, .int .i64 t] 64)).heap[W.heap.size]? = some (.cells #[.int .i64 v, .string s, .int .i64 t] 64) := heap_alloc_new _ _
  exact ⟨_, rfl, ((Below.refl _ _).alloc (Nat.le_refl _) _).drew, by simp, cell_in (w := World.drew _) (o := 0) hn rfl, cell_in (w := World.drew _) (o := 1) hn rfl, cell_in (w := World.drew _) (o := 2) hn rfl⟩
theorem co_new (w : World) (v : Int) (s : ByteArray) (t : Int) : (w.alloc (.cells #[.int .i64 v, .string s, .int .i64 t] 64)).cell? ⟨w.heap.size, 0, none⟩ = some (.int .i64 v) ∧ (w.alloc (.cells #[.int .i64 v, .string s, .int .i64 t] 64)).cell? ⟨w.heap.size, 1, none⟩ = some (.string s) ∧
    (w.alloc (.cells #[.int .i64 v, .string s, .int .i64 t] 64)).cell? ⟨w.heap.size, 2, none⟩ = some (.int .i64 t) := by
  have hn : (w.alloc (.cells #[.int .i64 v, .string s, .int .i64 t] 64)).heap[w.heap.size]? = some (.cells #[.int .i64 v, .string s, .int .i64 t] 64) := heap_alloc_new _ _
  exact ⟨cell_in (o := 0) hn rfl, cell_in (o := 1) hn rfl, cell_in (o := 2) hn rfl⟩
/-- A block of three free cells. -/
structure Co3 (w : World) (n : Nat) : Prop where
  lt : n < w.heap.size
  z0 : ∃ v, w.cell? ⟨n, 0, none⟩ = some v
  z1 : ∃ v, w.cell? ⟨n, 1, none⟩ = some v
  z2 : ∃ v, w.cell? ⟨n, 2, none⟩ = some v
  fr : ∀ k, w.frozen? ⟨n, k, none⟩ = false
theorem Co3.new (w : World) (v : Int) (s : ByteArray) (t : Int) : Co3 (w.alloc (.cells #[.int .i64 v, .string s, .int .i64 t] 64)) w.heap.size := by
  obtain ⟨h0, h1, h2⟩ := co_new w v s t
  exact ⟨by simp, ⟨_, h0⟩, ⟨_, h1⟩, ⟨_, h2⟩, fun k => Lib.frozen_of_heap (heap_alloc_new w (.cells #[.int .i64 v, .string s, .int .i64 t] 64)) k⟩
theorem Co3.keep {w w' : World} {n : Nat} (h : Co3 w n) (hk : w'.heap[n]? = w.heap[n]?) (hs : w.heap.size ≤ w'.heap.size) : Co3 w' n :=
  ⟨Nat.lt_of_lt_of_le h.lt hs, by rw [World.cell?_of_block (w := w) hk]; exact h.z0, by rw [World.cell?_of_block (w := w) hk]; exact h.z1, by rw [World.cell?_of_block (w := w) hk]; exact h.z2, fun k => by rw [World.frozen?_of_block (w := w) hk]; exact h.fr k⟩

theorem set_tot {w : World} {a b : Nat} {t : Int} (h : w.heap[a]? = some (.cells #[.map (some b), .int .i64 t] 78 (0, 0))) (n : Int) : (w.setCell ⟨a, 1, none⟩ (.int .i64 n)).heap[a]? = some (.cells #[.map (some b), .int .i64 n] 78 (0, 0)) := by
  simp [World.setCell, Array.getElem?_modify, h]

set_option maxHeartbeats 2000000 in
theorem take_any (a b : Nat) (l : List EnD) (p : ByteArray) (i : Int) (w : World) (h : SetIs w a b l) (hp : PtOk p i) :
    Calls Tryz.prog 27 #[.pointer (some ⟨a, 0, none⟩), .agg #[.string p, .int .u32 i]] w fun e w' => e = .returned (.tuple #[.agg #[.int .i64 (atE l p i).val, .string (atE l p i).scr, .int .i64 (atE l p i).ht], .int .i64 (takeE l p i)]) ∧ SetIs w' a b (delL l p i) ∧ But2 a b w w' := by
  have la := h.lta
  have lb := h.ltb
  obtain ⟨w1, hw1⟩ : ∃ w1, w1 = w.alloc (.cells #[.string p, .int .u32 i] 60) := ⟨_, rfl⟩
  have hz1 : w1.heap.size = w.heap.size + 1 := by rw [hw1]; simp
  have hb1 : Below w.heap.size w w1 := by rw [hw1]; exact (Below.refl _ _).alloc (Nat.le_refl _) _
  obtain ⟨W, hW⟩ : ∃ W, W = w1.alloc (.cells #[.int .i64 0, .string ⟨#[]⟩, .int .i64 0] 64) := ⟨_, rfl⟩
  have hz : W.heap.size = w.heap.size + 2 := by rw [hW]; simp [hz1]
  have hBW : Below w.heap.size w W := by rw [hW]; exact hb1.alloc (by omega) _
  have hS := h.below hBW la lb
  have h28 : W.heap[w.heap.size]? = some (.cells #[.string p, .int .u32 i] 60) := by rw [hW, Below.heap_alloc _ _ _ (by omega), hw1]; exact heap_alloc_new _ _
  have p0 : W.cell? ⟨w.heap.size, 0, none⟩ = some (.string p) := cell_in (o := 0) h28 rfl
  have p1 : W.cell? ⟨w.heap.size, 1, none⟩ = some (.int .u32 i) := cell_in (o := 1) h28 rfl
  have hC : Co3 W (w.heap.size + 1) := by rw [hW, ← hz1]; exact Co3.new _ _ _ _
  obtain ⟨c0, c0a, p0a, p1a, r0, r1⟩ := look_facts hS hp p0 p1 (by omega)
  obtain ⟨W2, hW2, hb2, hz2, y0, y1, y2⟩ := co_box W (atE l p i).val (atE l p i).scr (atE l p i).ht
  have hS2 := hS.below hb2 (by omega) (by omega)
  have hC2 := hC.keep (hb2.block _ (by omega)) hb2.size
  have hd : W2.cell? ⟨w.heap.size, 0, none⟩ = some (.string p) := (World.cell?_of_block (w := W) (hb2.block _ (by show w.heap.size < _; omega))).trans p0
  have hd1 : W2.cell? ⟨w.heap.size, 1, none⟩ = some (.int .u32 i) := (World.cell?_of_block (w := W) (hb2.block _ (by show w.heap.size < _; omega))).trans p1
  have hBW2 := below_next hBW (by omega) hb2
  have HW := Lib.hid (show W = (w.alloc (.cells #[.string p, .int .u32 i] 60)).alloc (.cells #[.int .i64 0, .string ⟨#[]⟩, .int .i64 0] 64) from by rw [hW, hw1])
  have HS := Lib.hid h
  have HP := Lib.hid hp
  have HS2 := Lib.hid hS2
  have HC2 := Lib.hid hC2
  have HB2 := Lib.hid hBW2
  have HW2 := Lib.hid hW2
  obtain ⟨y, hy⟩ : ∃ y, y = atE l p i := ⟨_, rfl⟩
  obtain ⟨q, hq⟩ : ∃ q, q = hasB l p i := ⟨_, rfl⟩
  have HY := Lib.hid hy
  have HQ := Lib.hid hq
  have HT : Hid (takeE l p i = if q = true then 0 else 8) := Lib.hid (by rw [hq]; rfl)
  rw [← hy, ← hq] at r0 r1
  rw [← hy] at HW2 y0 y1 y2 ⊢
  rw [hz] at y0 y1 y2
  have hz2' : W2.heap.size = w.heap.size + 3 := by omega
  obtain ⟨yi, yx, v, s, t⟩ := y
  simp only at r0 r1 HW2 y0 y1 y2 ⊢
  have HZ := Lib.hid (And.intro hz (And.intro hz2' (And.intro la lb)))
  clear h hp hS hBW hW hW2 hS2 hC hC2 hBW2 hb2 hz2 hz1 hb1 hw1 h28 hy hq
  go_enter Tryz.func27, Tryz.ntmps27
  go_upto_region 1 with (fail)
  rw [show World.alloc (World.alloc w _) _ = W from HW.out.symm]
  go_wp2_with fail
  go_region
  rw [show World.drew (World.alloc W _) = W2 from HW2.out.symm]
  clear r0 r1 c0 c0a p0 p1 p0a p1a hz hz2' HW HW2
  cases q with
  | false =>
    obtain ⟨_, z0⟩ := HC2.out.z0
    obtain ⟨_, z1⟩ := HC2.out.z1
    obtain ⟨_, z2⟩ := HC2.out.z2
    have zf := HC2.out.fr
    clear y0 y1 y2 hd hd1
    go_wp2_with fail
    obtain ⟨W3, hW3⟩ : ∃ W3, W3 = setCo W2 (w.heap.size + 1) 0 ⟨#[]⟩ 0 := ⟨_, rfl⟩
    obtain ⟨q0, q1, q2⟩ := setCo_cells z0 z1 z2 0 ⟨#[]⟩ 0
    have N3 := Lib.hid (setCo_below (Below.refl (w.heap.size + 1) W2) (Nat.le_refl _) 0 ⟨#[]⟩ 0)
    unfold setCo at hW3 q0 q1 q2 N3
    rw [← hW3] at q0 q1 q2 N3 ⊢
    refine bodyPost_ret (v := .tuple #[.agg #[.int .i64 0, .string ⟨#[]⟩, .int .i64 0], .int .i64 8]) (by simp [results, Tryz.results27, go_sem, q0, q1, q2]) rfl ?_
    have hn : hasB l p i = false := HQ.out.symm
    have hy := HY.out
    rw [atE_none hn] at hy
    obtain ⟨e1, e2, e3, e4, e5⟩ : yi = ⟨#[]⟩ ∧ yx = 0 ∧ v = 0 ∧ s = ⟨#[]⟩ ∧ t = 0 := by
      unfold e0 at hy
      injection hy with g1 g2 g3 g4 g5
      exact ⟨g1, g2, g3, g4, g5⟩
    have hl := HZ.out
    refine ⟨by rw [HT.out, e3, e4, e5]; rfl, ?_, ?_⟩
    · rw [del_none hn]
      exact HS2.out.below N3.out (by omega) (by omega)
    · exact But2.of_below ((HB2.out.trans (N3.out.mono (by omega))))
  | true =>
    have c0 := HS2.out.cell0
    obtain ⟨o1, rd, hm⟩ := HS2.out.map.drop HS2.out.good HP.out HQ.out.symm 0
    have rd' := rd W2.drew rfl
    have HM := Lib.hid hm
    clear rd hm
    go_wp2_with fail
    go_region
    have hl := HZ.out
    have hne := HS2.out.ne
    obtain ⟨W4, hW4⟩ : ∃ W4, W4 = setBlock W2.drew b o1 := ⟨_, rfl⟩
    rw [← hW4]
    have hz4 : W4.heap.size = W2.heap.size := by rw [hW4]; exact set_size _ _ _
    have oth : ∀ k, k ≠ b → W4.heap[k]? = W2.heap[k]? := fun k hk => by rw [hW4]; exact set_heap_other (w := W2.drew) o1 hk
    have hm4 : MapIs W4 b (delL l p i) := HM.out W4 (by rw [hW4]; exact set_heap_at _ (by show b < W2.heap.size; omega))
    have c1 : W4.cell? ⟨a, 1, none⟩ = some (.int .i64 (tot l)) := (World.cell?_of_block (w := W2) (oth a hne)).trans HS2.out.cell1
    have f1 : W4.frozen? ⟨a, 1, none⟩ = false := (World.frozen?_of_block (w := W2) (oth a hne)).trans (HS2.out.free 1)
    have t0 : W4.cell? ⟨w.heap.size + 2, 0, none⟩ = some (.int .i64 v) := (World.cell?_of_block (w := W2) (oth _ (by show w.heap.size + 2 ≠ b; omega))).trans y0
    have hin := atE_mem HQ.out.symm
    have hgt := del_tot HS2.out.good.srt.apart hin.1
    rw [hin.2.1, hin.2.2, ← HY.out] at hgt
    have hwr : IntKind.i64.wrap (tot l - v) = tot (delL l p i) := by
      rw [hgt]
      refine IntWalk.i64_in _ ?_
      have h1 := HS2.out.good.zero
      have h2 := HS2.out.good.most
      have h3 := HS2.out.good.pos _ hin.1
      rw [← HY.out] at h3
      simp only at h3
      have h4 := tot_pos (fun x hx => HS2.out.good.pos x (List.mem_filter.1 hx).1 : ∀ x ∈ delL l p i, 0 ≤ x.val)
      rw [hgt] at h4
      simp only at h4
      omega
    have HG := Lib.hid hm4
    have HO := Lib.hid oth
    have HA4 := Lib.hid hW4
    have HIN := Lib.hid hin
    have nlt : Hid (a < w.heap.size ∧ b < w.heap.size) := Lib.hid ⟨hl.2.2.1, hl.2.2.2⟩
    have HNE := Lib.hid hne
    obtain ⟨nt, hnt⟩ : ∃ nt, nt = tot (delL l p i) := ⟨_, rfl⟩
    have HNT := Lib.hid hnt
    rw [← hnt] at hwr
    obtain ⟨tl, htl⟩ : ∃ tl, tl = tot l := ⟨_, rfl⟩
    rw [← htl] at hwr c1
    have HYY := Lib.hid (And.intro y0 (And.intro y1 y2))
    clear hl hm4 oth hW4 hin hgt hne rd' c0 hd hd1 y0 y1 y2 hnt htl HM
    go_wp2_with fail
    go_region
    have hl := HZ.out
    obtain ⟨W5, hW5⟩ : ∃ W5, W5 = (W4.setCell ⟨a, 1, none⟩ (.int .i64 nt)).drew := ⟨_, rfl⟩
    rw [← hW5]
    have hz5 : W5.heap.size = W2.heap.size := by rw [hW5]; exact (World.size_setCell _ _ _).trans hz4
    have oth5 : ∀ k, k ≠ a → W5.heap[k]? = W4.heap[k]? := fun k hk => by rw [hW5]; exact Below.heap_setCell W4 ⟨a, 1, none⟩ _ k (by exact hk)
    have oth2 : ∀ k, k ≠ a → k ≠ b → W5.heap[k]? = W2.heap[k]? := fun k h1 h2 => (oth5 k h1).trans (HO.out k h2)
    have S5 : SetIs W5 a b (delL l p i) := ⟨HNE.out, by
      rw [hW5, ← HNT.out]
      exact set_tot (w := W4) (t := tot l) ((HO.out a HNE.out).trans HS2.out.blk) nt, HG.out.keep (oth5 b (fun e => HNE.out e.symm)), HS2.out.good.del p i⟩
    have C5 : Co3 W5 (w.heap.size + 1) := HC2.out.keep (oth2 _ (by omega) (by omega)) (by omega)
    have m2 : W5.heap[w.heap.size + 2]? = W2.heap[w.heap.size + 2]? := oth2 _ (by omega) (by omega)
    have x0 : W5.cell? ⟨w.heap.size + 2, 0, none⟩ = some (.int .i64 v) := (World.cell?_of_block (w := W2) m2).trans HYY.out.1
    have x1 : W5.cell? ⟨w.heap.size + 2, 1, none⟩ = some (.string s) := (World.cell?_of_block (w := W2) m2).trans HYY.out.2.1
    have x2 : W5.cell? ⟨w.heap.size + 2, 2, none⟩ = some (.int .i64 t) := (World.cell?_of_block (w := W2) m2).trans HYY.out.2.2
    have K5 := Lib.hid (show But2 a b W2 W5 from ⟨by rw [hW5, HA4.out]; rfl, by rw [hW5, HA4.out]; rfl, by rw [hW5, HA4.out]; rfl, by omega, fun k _ h1 h2 => oth2 k h1 h2⟩)
    have HS5 := Lib.hid S5
    obtain ⟨_, z0⟩ := C5.z0
    obtain ⟨_, z1⟩ := C5.z1
    obtain ⟨_, z2⟩ := C5.z2
    have zf := C5.fr
    have HZ5 := Lib.hid hz5
    clear oth5 oth2 S5 C5 m2 hW5 hz4 hz5 f1 t0 c1 hwr hl
    go_wp2_with fail
    obtain ⟨W6, hW6⟩ : ∃ W6, W6 = setCo W5 (w.heap.size + 1) v s t := ⟨_, rfl⟩
    obtain ⟨q0, q1, q2⟩ := setCo_cells z0 z1 z2 v s t
    have N6 := Lib.hid (setCo_below (Below.refl (w.heap.size + 1) W5) (Nat.le_refl _) v s t)
    unfold setCo at hW6 q0 q1 q2 N6
    rw [← hW6] at q0 q1 q2 N6 ⊢
    refine bodyPost_ret (v := .tuple #[.agg #[.int .i64 v, .string s, .int .i64 t], .int .i64 0]) (by simp [results, Tryz.results27, go_sem, q0, q1, q2]) rfl ?_
    have hl := HZ.out
    have hz5 := HZ5.out
    refine ⟨by rw [HT.out]; rfl, HS5.out.below N6.out (by omega) (by omega), ?_⟩
    have B5 := (But2.of_below HB2.out (a := a) (b := b)).trans K5.out
    exact ⟨N6.out.os.trans B5.os, N6.out.tape.trans B5.tape, N6.out.output.trans B5.output, Nat.le_trans B5.size N6.out.size, fun k hk h1 h2 => (N6.out.block k (by omega)).trans (B5.block k hk h1 h2)⟩

end Go.Proofs.YtnmfjnfdnjjngaaGreatDoor.Co

namespace Go.Proofs.YtnmfjnfdnjjngaaGreatDoor.Co
open Go.RowKit Go.ChangeMaps
set_option maxRecDepth 100000

theorem put_arg {l : List EnD} {x : EnD} (h : argB x = false) : putE l x = 2 ∧ putL l x = l := by
  have e : putE l x = 2 := by unfold putE; rw [if_pos h]
  exact ⟨e, by unfold putL; rw [e, if_neg (by decide)]⟩
theorem put_twice {l : List EnD} {x : EnD} (h : argB x = true) (h2 : hasB l x.id x.ix = true) : putE l x = 7 ∧ putL l x = l := by
  have e : putE l x = 7 := by unfold putE; rw [if_neg (by rw [h]; decide), if_pos h2]
  exact ⟨e, by unfold putL; rw [e, if_neg (by decide)]⟩
theorem put_range {l : List EnD} {x : EnD} (h : argB x = true) (h2 : hasB l x.id x.ix = false) (h3 : goodB (tot l + x.val) = false) : putE l x = 3 ∧ putL l x = l := by
  have e : putE l x = 3 := by unfold putE; rw [if_neg (by rw [h]; decide), if_neg (by rw [h2]; decide), if_pos h3]
  exact ⟨e, by unfold putL; rw [e, if_neg (by decide)]⟩
theorem put_yes {l : List EnD} {x : EnD} (h : argB x = true) (h2 : hasB l x.id x.ix = false) (h3 : goodB (tot l + x.val) = true) : putE l x = 0 ∧ putL l x = insR x l := by
  have e : putE l x = 0 := by unfold putE; rw [if_neg (by rw [h]; decide), if_neg (by rw [h2]; decide), if_neg (by rw [h3]; decide)]
  exact ⟨e, by unfold putL; rw [if_pos e]⟩
set_option maxHeartbeats 4000000 in
theorem put_any (a b : Nat) (l : List EnD) (x : EnD) (w : World) (h : SetIs w a b l) (hx : x.Ok) :
    Calls Tryz.prog 28 #[.pointer (some ⟨a, 0, none⟩), .agg #[.string x.id, .int .u32 x.ix], .agg #[.int .i64 x.val, .string x.scr, .int .i64 x.ht]] w fun e w' => e = .returned (.int .i64 (putE l x)) ∧ SetIs w' a b (putL l x) ∧ But2 a b w w' := by
  have la := h.lta
  have lb := h.ltb
  obtain ⟨w1, hw1⟩ : ∃ w1, w1 = w.alloc (.cells #[.string x.id, .int .u32 x.ix] 60) := ⟨_, rfl⟩
  have hz1 : w1.heap.size = w.heap.size + 1 := by rw [hw1]; simp
  have hb1 : Below w.heap.size w w1 := by rw [hw1]; exact (Below.refl _ _).alloc (Nat.le_refl _) _
  obtain ⟨W, hW⟩ : ∃ W, W = w1.alloc (.cells #[.int .i64 x.val, .string x.scr, .int .i64 x.ht] 64) := ⟨_, rfl⟩
  have hz : W.heap.size = w.heap.size + 2 := by rw [hW]; simp [hz1]
  have hBW : Below w.heap.size w W := by rw [hW]; exact hb1.alloc (by omega) _
  have h28 : W.heap[w.heap.size]? = some (.cells #[.string x.id, .int .u32 x.ix] 60) := by rw [hW, Below.heap_alloc _ _ _ (by omega), hw1]; exact heap_alloc_new _ _
  have h35 : W.heap[w.heap.size + 1]? = some (.cells #[.int .i64 x.val, .string x.scr, .int .i64 x.ht] 64) := by rw [hW, ← hz1]; exact heap_alloc_new _ _
  have s0 : W.cell? ⟨w.heap.size, 0, none⟩ = some (.string x.id) := cell_in (o := 0) h28 rfl
  have v0 : W.cell? ⟨w.heap.size + 1, 0, none⟩ = some (.int .i64 x.val) := cell_in (o := 0) h35 rfl
  have v1 : W.cell? ⟨w.heap.size + 1, 1, none⟩ = some (.string x.scr) := cell_in (o := 1) h35 rfl
  have v2 : W.cell? ⟨w.heap.size + 1, 2, none⟩ = some (.int .i64 x.ht) := cell_in (o := 2) h35 rfl
  have HG := Lib.hid (isgood_any x W)
  have HS := Lib.hid h
  have HX := Lib.hid hx
  have HB := Lib.hid hBW
  have HZ := Lib.hid hz
  have H28 := Lib.hid h28
  have H35 := Lib.hid h35
  have HW := Lib.hid (show W = (w.alloc (.cells #[.string x.id, .int .u32 x.ix] 60)).alloc (.cells #[.int .i64 x.val, .string x.scr, .int .i64 x.ht] 64) from by rw [hW, hw1])
  obtain ⟨pid, pix, v, s, t⟩ := x
  simp only at HG HW s0 v0 v1 v2 H28 H35 ⊢
  have EA : Hid (argB ⟨pid, pix, v, s, t⟩ = (decide (pid.size = 32) && (decide (0 ≤ t) && decide (t ≤ 1000000) && goodB v))) := Lib.hid rfl
  obtain ⟨g, hg⟩ : ∃ g, g = (decide (0 ≤ t) && decide (t ≤ 1000000) && goodB v) := ⟨_, rfl⟩
  rw [← hg] at HG EA
  have HGG := Lib.hid hg
  clear h hx hBW hz h28 h35 hW hw1 hz1 hb1 hg
  by_cases hs : pid.size = 32
  · have hsz : ((pid.size : Int) != 32) = false := by rw [hs]; rfl
    have EA' : Hid (argB ⟨pid, pix, v, s, t⟩ = g) := Lib.hid (by rw [EA.out]; simp [hs])
    have HSZ := Lib.hid hs
    clear hs EA
    go_enter Tryz.func28, Tryz.ntmps28
    go_upto_region 1 with (fail)
    rw [show World.alloc (World.alloc w _) _ = W from HW.out.symm]
    go_wp2_with fail
    refine HG.out.mono ?_
    rintro e w3 ⟨rfl, hb3⟩
    have HB3 := Lib.hid hb3
    clear hb3 s0 v0 v1 v2
    cases g with
    | false =>
      go_wp2_with fail
      go_ret
      have q := put_arg (l := l) EA'.out
      have hz := HZ.out
      have b3 := below_next HB.out (by omega) HB3.out
      exact ⟨ret_int q.1.symm, by rw [q.2]; exact HS.out.below b3 la lb, But2.of_below b3⟩
    | true =>
      have hz := HZ.out
      have hz3 := HB3.out.size
      have b3 := below_next HB.out (by omega) HB3.out
      have S3 := HS.out.below b3 la lb
      have h28 := (HB3.out.block w.heap.size (by omega)).trans H28.out
      have h35 := (HB3.out.block (w.heap.size + 1) (by omega)).trans H35.out
      have p0 : w3.cell? ⟨w.heap.size, 0, none⟩ = some (.string pid) := cell_in (o := 0) h28 rfl
      have p1 : w3.cell? ⟨w.heap.size, 1, none⟩ = some (.int .u32 pix) := cell_in (o := 1) h28 rfl
      obtain ⟨c0, c0a, p0a, p1a, r0, r1⟩ := look_facts S3 HX.out.1 p0 p1 (by omega)
      obtain ⟨w4, hw4, hb4, hz4, y0, y1, y2⟩ := co_box w3 (atE l pid pix).val (atE l pid pix).scr (atE l pid pix).ht
      have HB4 := Lib.hid (below_next b3 (by omega) hb4)
      have HBB := Lib.hid hb4
      have HW4 := Lib.hid hw4
      obtain ⟨q, hq⟩ : ∃ q, q = hasB l pid pix := ⟨_, rfl⟩
      have HQ := Lib.hid hq
      rw [← hq] at r0 r1
      have HZ4 := Lib.hid (And.intro hz4 (And.intro hz3 hz))
      generalize atE l pid pix = y at HW4 r0 r1
      obtain ⟨yi, yx, yv, ys, yt⟩ := y
      simp only at r0 r1 HW4
      clear hw4 hb4 y0 y1 y2 hq hz hz3 hz4 b3 S3 h28 h35
      go_wp2_with fail
      go_region
      rw [show World.drew (World.alloc w3 _) = w4 from HW4.out.symm]
      clear r0 r1 c0 c0a p0 p1 p0a p1a HW4
      have S4 := Lib.hid (HS.out.below HB4.out la lb)
      cases q with
      | true =>
        go_wp2_with fail
        go_ret
        have q := put_twice EA'.out HQ.out.symm
        exact ⟨ret_int q.1.symm, by rw [q.2]; exact S4.out, But2.of_below HB4.out⟩
      | false =>
        have hz := HZ4.out
        have h28 := ((HBB.out.block w.heap.size (by omega)).trans (HB3.out.block w.heap.size (by omega))).trans H28.out
        have h35 := ((HBB.out.block (w.heap.size + 1) (by omega)).trans (HB3.out.block (w.heap.size + 1) (by omega))).trans H35.out
        have p0 : w4.cell? ⟨w.heap.size, 0, none⟩ = some (.string pid) := cell_in (o := 0) h28 rfl
        have p1 : w4.cell? ⟨w.heap.size, 1, none⟩ = some (.int .u32 pix) := cell_in (o := 1) h28 rfl
        have v0 : w4.cell? ⟨w.heap.size + 1, 0, none⟩ = some (.int .i64 v) := cell_in (o := 0) h35 rfl
        have v1 : w4.cell? ⟨w.heap.size + 1, 1, none⟩ = some (.string s) := cell_in (o := 1) h35 rfl
        have v2 : w4.cell? ⟨w.heap.size + 1, 2, none⟩ = some (.int .i64 t) := cell_in (o := 2) h35 rfl
        have c0 := S4.out.cell0
        have c1 := S4.out.cell1
        have ga : goodB (tot l) = true := goodB_iff.2 ⟨S4.out.good.zero, S4.out.good.most⟩
        have gv : goodB v = true := by have := HGG.out.symm; simp only [Bool.and_eq_true] at this; exact this.2
        have CA := fun W => add_any (tot l) v W ga gv
        obtain ⟨tl, htl⟩ : ∃ tl, tl = tot l := ⟨_, rfl⟩
        rw [← htl] at c1 CA
        have HTL := Lib.hid htl
        clear htl ga gv hz h28 h35
        cases hgg : goodB (tl + v) with
        | false =>
          rw [hgg] at CA
          simp only [Bool.false_eq_true, if_false] at CA
          have hgh := Lib.hid hgg
          clear hgg
          go_wp2_with fail
          go_quiet ((go_at_call 48; exact Calls.quiet_of_same ((CA _).mono fun _ _ h => ⟨h.1, h.2⟩)))
          go_wp2_with fail
          go_ret
          have q := put_range (l := l) EA'.out HQ.out.symm (by rw [← HTL.out]; exact hgh.out)
          have b5 := below_drewN HB4.out nq
          exact ⟨ret_int q.1.symm, by rw [q.2]; exact HS.out.below b5 la lb, But2.of_below b5⟩
        | true =>
          rw [hgg] at CA
          simp only [if_true] at CA
          have hgh := Lib.hid hgg
          clear hgg
          go_wp2_with fail
          go_quiet ((go_at_call 48; exact Calls.quiet_of_same ((CA _).mono fun _ _ h => ⟨h.1, h.2⟩)))
          obtain ⟨w5, hw5⟩ : ∃ w5, w5 = w4.drewN nq := ⟨_, rfl⟩
          rw [← hw5]
          have B5 := Lib.hid (show Below w.heap.size w w5 from by rw [hw5]; exact below_drewN HB4.out nq)
          have hp5 : w5.heap = w4.heap := by rw [hw5]; rfl
          have hc5 : ∀ k o, w5.cell? ⟨k, o, none⟩ = w4.cell? ⟨k, o, none⟩ := fun k o => World.cell?_of_block (w := w4) (by rw [hp5])
          rw [← hc5] at p0 p1 v0 v1 v2 c0 c1
          have S5 := Lib.hid (show SetIs w5 a b l from S4.out.keep (by rw [hp5]) (by rw [hp5]))
          have f1 := S5.out.free 1
          obtain ⟨st, o1, o2, r1, r2, r3⟩ := S5.out.map.push S5.out.good HX.out.1 HQ.out.symm
          simp only at r1 r2
          have hne := S5.out.ne
          have la5 : a < w5.heap.size := S5.out.lta
          have lb5 : b < w5.heap.size := S5.out.ltb
          have m1 := r1 w5.drew rfl
          have m1s := r1 (w5.setCell ⟨a, 1, none⟩ (.int .i64 (tl + v))).drew (Below.heap_setCell w5 ⟨a, 1, none⟩ _ b (fun e => hne e.symm))
          obtain ⟨Y1, hY1⟩ : ∃ Y, Y = setBlock w5.drew b o1 := ⟨_, rfl⟩
          obtain ⟨Y2, hY2⟩ : ∃ Y, Y = setBlock (w5.setCell ⟨a, 1, none⟩ (.int .i64 (tl + v))).drew b o1 := ⟨_, rfl⟩
          rw [← hY1] at m1
          rw [← hY2] at m1s
          have a1 : Y1.heap[a]? = w5.heap[a]? := by rw [hY1]; exact set_heap_other (w := w5.drew) o1 hne
          have b1 : Y1.heap[b]? = some o1 := by rw [hY1]; exact set_heap_at (w := w5.drew) o1 lb5
          have b2 : Y2.heap[b]? = some o1 := by rw [hY2]; exact set_heap_at (w := World.drew _) o1 (by show b < (World.setCell _ _ _).heap.size; rw [World.size_setCell]; exact lb5)
          have n1 : Y1.cell? ⟨a, 1, none⟩ = some (.int .i64 tl) := (World.cell?_of_block (w := w5) a1).trans c1
          have n1f : Y1.frozen? ⟨a, 1, none⟩ = false := (World.frozen?_of_block (w := w5) a1).trans f1
          have e2 := r2 Y1 b1
          have e2s := r2 (Y1.setCell ⟨a, 1, none⟩ (.int .i64 (tl + v))) ((Below.heap_setCell Y1 ⟨a, 1, none⟩ _ b (fun e => hne e.symm)).trans b1)
          have e2t := r2 Y2 b2
          have a2 : (setBlock Y1 b o2).heap[a]? = w5.heap[a]? := (set_heap_other o2 hne).trans a1
          have n2 : (setBlock Y1 b o2).cell? ⟨a, 1, none⟩ = some (.int .i64 tl) := (World.cell?_of_block (w := w5) a2).trans c1
          have n2f : (setBlock Y1 b o2).frozen? ⟨a, 1, none⟩ = false := (World.frozen?_of_block (w := w5) a2).trans f1
          have hl := HZ4.out
          have o1' : ∀ k o, k ≠ b → Y1.cell? ⟨k, o, none⟩ = w5.cell? ⟨k, o, none⟩ := fun k o hk => World.cell?_of_block (w := w5) (by rw [hY1]; exact set_heap_other (w := w5.drew) _ hk)
          have os' : ∀ k o, k ≠ a → (w5.setCell ⟨a, 1, none⟩ (.int .i64 (tl + v))).cell? ⟨k, o, none⟩ = w5.cell? ⟨k, o, none⟩ := fun k o hk => World.cell?_of_block (w := w5) (Below.heap_setCell w5 ⟨a, 1, none⟩ _ k (by exact hk))
          have o2' : ∀ k o, k ≠ a → k ≠ b → Y2.cell? ⟨k, o, none⟩ = w5.cell? ⟨k, o, none⟩ := fun k o h1 h2 => (World.cell?_of_block (w := World.drew (w5.setCell ⟨a, 1, none⟩ (.int .i64 (tl + v)))) (by rw [hY2]; exact set_heap_other _ h2)).trans (os' k o h1)
          have u0 := (o1' (w.heap.size + 1) 0 (by omega)).trans v0
          have u1 := (o1' (w.heap.size + 1) 1 (by omega)).trans v1
          have u2 := (o1' (w.heap.size + 1) 2 (by omega)).trans v2
          have k0 := (os' (w.heap.size + 1) 0 (by omega)).trans v0
          have k1 := (os' (w.heap.size + 1) 1 (by omega)).trans v1
          have k2 := (os' (w.heap.size + 1) 2 (by omega)).trans v2
          have k3 := (os' w.heap.size 0 (by omega)).trans p0
          have k4 := (os' w.heap.size 1 (by omega)).trans p1
          have k5 : (w5.setCell ⟨a, 1, none⟩ (.int .i64 (tl + v))).cell? ⟨a, 0, none⟩ = some (.map (some b)) := (World.cell?_setCell_other _ _ _ _ (by simp)).trans c0
          have j0 := (o2' (w.heap.size + 1) 0 (by omega) (by omega)).trans v0
          have j1 := (o2' (w.heap.size + 1) 1 (by omega) (by omega)).trans v1
          have j2 := (o2' (w.heap.size + 1) 2 (by omega) (by omega)).trans v2
          have HY := Lib.hid (And.intro hY1 hY2)
          have HNE := Lib.hid hne
          clear hl o1' os' o2' hY1 hY2 a1 b1 b2 a2 hne r1 r2 la5 lb5
          have HR3 := Lib.hid r3
          clear r3 hw5 hp5 hc5 CA
          go_wp2_with fail
          go_region
          go_wp2_with fail
          go_ret
          obtain ⟨W9, hW9⟩ : ∃ W9, W9 = (setBlock Y1 b o2).setCell ⟨a, 1, none⟩ (.int .i64 (tl + v)) := ⟨_, rfl⟩
          rw [← hW9]
          have hne := HNE.out
          have q := put_yes (l := l) EA'.out HQ.out.symm (by rw [← HTL.out]; exact hgh.out)
          have hY1 := HY.out.1
          have lb5 := S5.out.ltb
          have sz : W9.heap.size = w5.heap.size := by rw [hW9, World.size_setCell, set_size, hY1, set_size]; rfl
          have oth : ∀ k, k ≠ a → k ≠ b → W9.heap[k]? = w5.heap[k]? := fun k h1 h2 => by
            rw [hW9]
            refine (Below.heap_setCell _ ⟨a, 1, none⟩ _ k (by exact h1)).trans ?_
            rw [set_heap_other _ h2, hY1]
            exact set_heap_other (w := w5.drew) o1 h2
          have hb9 : W9.heap[b]? = some o2 := by
            rw [hW9]
            exact (Below.heap_setCell _ ⟨a, 1, none⟩ _ b (fun e => hne e.symm)).trans (set_heap_at _ (by rw [hY1, set_size]; exact lb5))
          have ha9 : W9.heap[a]? = some (.cells #[.map (some b), .int .i64 (tl + v)] 78 (0, 0)) := by
            rw [hW9]
            refine set_tot (t := tl) ?_ _
            rw [set_heap_other _ hne, hY1, HTL.out]
            exact (set_heap_other (w := w5.drew) o1 hne).trans S5.out.blk
          have et : tl + v = tot (insR ⟨pid, pix, v, s, t⟩ l) := by rw [tot_perm (insR_perm _ l), tot_cons, HTL.out]; simp only; omega
          have gd := S5.out.good.put HX.out
          rw [q.2] at gd
          refine ⟨ret_int q.1.symm, ?_, ?_⟩
          · rw [q.2]
            exact ⟨hne, by rw [← et]; exact ha9, HR3.out W9 hb9, gd⟩
          · have k5 : But2 a b w w5 := But2.of_below B5.out
            exact k5.trans ⟨by rw [hW9, hY1]; rfl, by rw [hW9, hY1]; rfl, by rw [hW9, hY1]; rfl, by omega, fun k _ h1 h2 => oth k h1 h2⟩
  · have hsz : ((pid.size : Int) != 32) = true := by rw [bne_iff_ne]; omega
    have EA' : Hid (argB ⟨pid, pix, v, s, t⟩ = false) := Lib.hid (by rw [EA.out]; simp [hs])
    clear hs EA
    go_enter Tryz.func28, Tryz.ntmps28
    go_upto_region 1 with (fail)
    rw [show World.alloc (World.alloc w _) _ = W from HW.out.symm]
    go_wp2_with fail
    go_ret
    have q := put_arg (l := l) EA'.out
    exact ⟨ret_int q.1.symm, by rw [q.2]; exact HS.out.below HB.out la lb, But2.of_below HB.out⟩

end Go.Proofs.YtnmfjnfdnjjngaaGreatDoor.Co

namespace Go.Proofs.YtnmfjnfdnjjngaaGreatDoor.Co
open Go.RowKit
set_option maxRecDepth 100000

theorem equalIn_pt (d : Nat) (w : World) (a : ByteArray) (i : Int) (b : ByteArray) (j : Int) :
    (Op.equalIn (d + 1 + 1) 60 (.agg #[.string a, .int .u32 i]) (.agg #[.string b, .int .u32 j])).run Tryz.prog w = .ok (ptB a i b j) w := by
  have u9 := Tryz.underlying9
  have u22 := Tryz.underlying47
  have a9 := Tryz.isAgg9
  have z9 := Tryz.sizeOf9
  have a22 := Tryz.isAgg47
  have z22 := Tryz.sizeOf47
  have hS : Tryz.prog.underlying 60 = some (.struct (Tryz.prog.fieldsOf 60)) := by kernel_rfl
  have hp : Tryz.prog.stoodInHeld 60 = false := by kernel_rfl
  rw [run_equalIn_agg w (d + 1) 60 _ _ hS hp]
  simp only [Program.fieldsOf, Tryz.underlying60]
  go_simp
  unfold ptB
  by_cases h1 : a.toList = b.toList <;> by_cases h2 : i = j <;> simp [h1, h2]

theorem equalIn_co (d : Nat) (w : World) (v : Int) (s : ByteArray) (t : Int) (v' : Int) (s' : ByteArray) (t' : Int) :
    (Op.equalIn (d + 1 + 1 + 1) 64 (.agg #[.int .i64 v, .string s, .int .i64 t]) (.agg #[.int .i64 v', .string s', .int .i64 t'])).run Tryz.prog w = .ok (coB v s t v' s' t') w := by
  have u9 := Tryz.underlying9
  have u3 := Tryz.underlying3
  have a9 := Tryz.isAgg9
  have z9 := Tryz.sizeOf9
  have a3 := Tryz.isAgg3
  have z3 := Tryz.sizeOf3
  have a33 := Tryz.isAgg62
  have z33 := Tryz.sizeOf62
  have hS : Tryz.prog.underlying 64 = some (.struct (Tryz.prog.fieldsOf 64)) := by kernel_rfl
  have hp : Tryz.prog.stoodInHeld 64 = false := by kernel_rfl
  have hS' : Tryz.prog.underlying 62 = some (.struct (Tryz.prog.fieldsOf 62)) := by kernel_rfl
  have hp' : Tryz.prog.stoodInHeld 62 = false := by kernel_rfl
  have hE : ∀ W : World, (Op.equalIn (d + 1 + 1) 62 (.agg #[.int .i64 v, .string s]) (.agg #[.int .i64 v', .string s'])).run Tryz.prog W = .ok ((v == v') && (s.toList == s'.toList)) W := fun W => by
    rw [run_equalIn_agg W (d + 1) 62 _ _ hS' hp']
    simp only [Program.fieldsOf, Tryz.underlying62]
    go_simp
    by_cases h1 : v = v' <;> by_cases h2 : s.toList = s'.toList <;> simp [h1, h2]
  rw [run_equalIn_agg w (d + 1 + 1) 64 _ _ hS hp]
  simp only [Program.fieldsOf, Tryz.underlying64]
  go_simp
  unfold coB
  by_cases h1 : v = v' <;> by_cases h2 : s.toList = s'.toList <;> by_cases h3 : t = t' <;> simp [h1, h2, h3]

theorem run_neq_en (w : World) (a : ByteArray) (i v : Int) (s : ByteArray) (t : Int) (a' : ByteArray) (i' v' : Int) (s' : ByteArray) (t' : Int) :
    (binOp .neq 66 (.agg #[.string a, .int .u32 i, .int .i64 v, .string s, .int .i64 t]) (.agg #[.string a', .int .u32 i', .int .i64 v', .string s', .int .i64 t'])).run Tryz.prog w = .ok (.bool !(ptB a i a' i' && coB v s t v' s' t')) w := by
  have a28 := Tryz.isAgg60
  have z28 := Tryz.sizeOf60
  have a35 := Tryz.isAgg64
  have z35 := Tryz.sizeOf64
  have hS : Tryz.prog.underlying 66 = some (.struct (Tryz.prog.fieldsOf 66)) := by kernel_rfl
  have hp : Tryz.prog.stoodInHeld 66 = false := by kernel_rfl
  have h1 := fun W => equalIn_pt 9997 W a i a' i'
  have h2 := fun W => equalIn_co 9996 W v s t v' s' t'
  rw [run_neq_struct, show (10000 : Nat) = 9999 + 1 from rfl, run_equalIn_agg w 9999 66 _ _ hS hp]
  simp only [Program.fieldsOf, Tryz.underlying66]
  go_simp
  cases ptB a i a' i' <;> cases coB v s t v' s' t' <;> simp
theorem en_guard (op : BinOp) (x y : Operand) (a : Array Value) (b : Array Value) (w : World) : (eqGuard op 66 x y (.agg a) (.agg b)).run Tryz.prog w = .ok () w := run_eqGuard_agg w op 66 x y a b (by kernel_rfl)

/-- Beside a set, another one. -/
theorem SetIs.aside {w w' : World} {a b a' b' : Nat} {l : List EnD} (h : SetIs w a b l) (hk : But2 a' b' w w') (h1 : a ≠ a') (h2 : a ≠ b') (h3 : b ≠ a') (h4 : b ≠ b') : SetIs w' a b l := h.keep (hk.block a h.lta h1 h2) (hk.block b h.ltb h3 h4)

theorem arg_put {l : List EnD} (h : ∀ x ∈ l, argB x = true) (x : EnD) : ∀ y ∈ putL l x, argB y = true := by
  intro y hy
  unfold putL at hy
  split at hy
  · rename_i h0
    rcases List.mem_cons.1 ((insR_perm x l).mem_iff.1 hy) with rfl | hy
    · exact (put_zero h0).1
    · exact h y hy
  · exact h y hy

/-- The last ones of a list, and the one ahead of them. -/
theorem put_back {l : List EnD} (hg : Good l) (ha : ∀ x ∈ l, argB x = true) {i : Nat} {x : EnD} (hx : l[i]? = some x) : putL (l.drop (i + 1)) x = l.drop i := by
  obtain ⟨hlt, hxe⟩ := List.getElem?_eq_some_iff.1 hx
  have hd : l.drop i = x :: l.drop (i + 1) := by rw [List.drop_eq_getElem_cons hlt, hxe]
  have hs : Srt (x :: l.drop (i + 1)) := by rw [← hd]; exact List.Pairwise.sublist (List.drop_sublist i l) hg.srt
  obtain ⟨s1, s2⟩ := List.pairwise_cons.1 hs
  have hmem : x ∈ l := List.mem_of_getElem? hx
  have hn : hasB (l.drop (i + 1)) x.id x.ix = false := by
    rw [Bool.eq_false_iff]
    intro h
    obtain ⟨y, hy, e1, e2⟩ := hasB_iff.1 h
    have h1 := s1 y hy
    rw [same_lt (x := x) (y := y) (ptB_iff.2 ⟨e1.symm, e2.symm⟩)] at h1
    cases h1
  have ht : goodB (tot (l.drop (i + 1)) + x.val) = true := by
    have h1 : tot l = tot (l.take i) + tot (l.drop i) := by rw [← tot_append, List.take_append_drop]
    rw [hd, tot_cons] at h1
    have h2 := (tot_take hg.pos i).1
    have h3 := hg.most
    have h4 := hg.pos x hmem
    have h5 := tot_pos (l := l.drop (i + 1)) fun y hy => hg.pos y (List.mem_of_mem_drop hy)
    exact goodB_iff.2 ⟨by omega, by omega⟩
  obtain ⟨_, h2⟩ := put_yes (ha x hmem) hn ht
  rw [h2, hd]
  cases hc : l.drop (i + 1) with
  | nil => rfl
  | cons y r =>
    unfold insR
    rw [if_pos (s1 y (by rw [hc]; simp))]

end Go.Proofs.YtnmfjnfdnjjngaaGreatDoor.Co
