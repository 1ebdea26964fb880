/-
  A block under work: the set, the height, what stood ahead; looking at a point, keeping it.
  What stands at a point is kept ahead of a change.
-/
import Derived.Test.YtnmfjnfdnjjngaaGreatDoorMBls
import Derived.Test.YtnmfjnfdnjjngaaGreatDoorMEqs
import Derived.Test.YtnmfjnfdnjjngaaGreatDoorMSpb

namespace Go.Proofs.YtnmfjnfdnjjngaaGreatDoor
open Go.RowKit Go.ChangeMaps
set_option maxRecDepth 100000

/-- What turns: some blocks, and new ones. -/
structure Tn (s : List Nat) (w w' : World) : Prop where
  os : w'.os = w.os
  tape : w'.tape = w.tape
  output : w'.output = w.output
  size : w.heap.size ≤ w'.heap.size
  block : ∀ k, k < w.heap.size → k ∉ s → w'.heap[k]? = w.heap[k]?
theorem Tn.of_below {s : List Nat} {w w' : World} (h : Below w.heap.size w w') : Tn s w w' := ⟨h.os, h.tape, h.output, h.size, fun k hk _ => h.block k hk⟩
theorem Tn.refl (s : List Nat) (w : World) : Tn s w w := Tn.of_below (Below.refl _ _)
theorem Tn.of_but2 {a b : Nat} {w w' : World} (h : Co.But2 a b w w') : Tn [a, b] w w' := ⟨h.os, h.tape, h.output, h.size, fun k hk hs => h.block k hk (fun e => hs (by simp [e])) (fun e => hs (by simp [e]))⟩
theorem Tn.to_but2 {a b : Nat} {w w' : World} (h : Tn [a, b] w w') : Co.But2 a b w w' := ⟨h.os, h.tape, h.output, h.size, fun k hk h1 h2 => h.block k hk (by simp [h1, h2])⟩
theorem Tn.mono {s t : List Nat} {w w' : World} (h : Tn s w w') (hs : ∀ k ∈ s, k ∈ t) : Tn t w w' := ⟨h.os, h.tape, h.output, h.size, fun k hk hn => h.block k hk fun hm => hn (hs k hm)⟩
theorem Tn.trans {s : List Nat} {x y z : World} (h : Tn s x y) (k : Tn s y z) : Tn s x z :=
  ⟨k.os.trans h.os, k.tape.trans h.tape, k.output.trans h.output, Nat.le_trans h.size k.size, fun i h1 h2 => (k.block i (Nat.lt_of_lt_of_le h1 h.size) h2).trans (h.block i h1 h2)⟩
theorem Tn.next {s : List Nat} {x y z : World} (h : Tn s x y) (k : Below y.heap.size y z) : Tn s x z := h.trans (Tn.of_below k)
/-- Blocks that the call made itself turn: nothing that was there does. -/
theorem Tn.below {s : List Nat} {B : Nat} {x y z : World} (h : Below B x y) (k : Tn s y z) (hs : ∀ i ∈ s, B ≤ i) (hB : B ≤ y.heap.size) : Below B x z :=
  ⟨k.os.trans h.os, k.tape.trans h.tape, k.output.trans h.output, Nat.le_trans h.size k.size, fun i hi => (k.block i (by omega) (fun hm => by have := hs i hm; omega)).trans (h.block i hi)⟩
theorem Tn.kept {s : List Nat} {lo hi : Nat} {w w' : World} (h : Tn s w w') (hs : ∀ i ∈ s, i < lo ∨ hi ≤ i) (hh : hi ≤ w.heap.size) : Kept lo hi w w' := fun i h1 h2 => h.block i (by omega) (fun hm => by have := hs i hm; omega)
theorem Tn.cell {s : List Nat} {w w' : World} (h : Tn s w w') {b o : Nat} (hb : b < w.heap.size) (hn : b ∉ s) : w'.cell? ⟨b, o, none⟩ = w.cell? ⟨b, o, none⟩ := World.cell?_of_block (w := w) (h.block b hb hn)

/-- A block under work. -/
structure Wk (w : World) (g a b c : Nat) (h : Int) (l0 l : List Co.EnD) (A : List Co.PtD) : Prop where
  blk : w.heap[g]? = some (.cells #[.pointer (some ⟨a, 0, none⟩), .int .i64 h, .map (some c)] 89 (0, 0))
  set : Co.SetIs w a b l
  map : Co.SMap w c (A.map (Co.spot l0))
  kep : Co.Kep l0 l A
  ga : g ≠ a
  gb : g ≠ b
  gc : g ≠ c
  ac : a ≠ c
  bc : b ≠ c
theorem Wk.ltg {w : World} {g a b c : Nat} {h : Int} {l0 l : List Co.EnD} {A : List Co.PtD} (k : Wk w g a b c h l0 l A) : g < w.heap.size := Co.lt_of_heap k.blk
theorem Wk.c0 {w : World} {g a b c : Nat} {h : Int} {l0 l : List Co.EnD} {A : List Co.PtD} (k : Wk w g a b c h l0 l A) : w.cell? ⟨g, 0, none⟩ = some (.pointer (some ⟨a, 0, none⟩)) := Co.cell_in k.blk rfl
theorem Wk.c1 {w : World} {g a b c : Nat} {h : Int} {l0 l : List Co.EnD} {A : List Co.PtD} (k : Wk w g a b c h l0 l A) : w.cell? ⟨g, 1, none⟩ = some (.int .i64 h) := Co.cell_in k.blk rfl
theorem Wk.c2 {w : World} {g a b c : Nat} {h : Int} {l0 l : List Co.EnD} {A : List Co.PtD} (k : Wk w g a b c h l0 l A) : w.cell? ⟨g, 2, none⟩ = some (.map (some c)) := Co.cell_in k.blk rfl
theorem Wk.below {w w' : World} {g a b c B : Nat} {h : Int} {l0 l : List Co.EnD} {A : List Co.PtD} (k : Wk w g a b c h l0 l A) (hb : Below B w w') (hB : w.heap.size ≤ B) : Wk w' g a b c h l0 l A :=
  ⟨(hb.block g (by have := k.ltg; omega)).trans k.blk, k.set.below hb (by have := k.set.lta; omega) (by have := k.set.ltb; omega), k.map.keep (hb.block c (by have := k.map.lt; omega)), k.kep, k.ga, k.gb, k.gc, k.ac, k.bc⟩
/-- The set has turned. -/
theorem Wk.turn {w w' : World} {g a b c : Nat} {h : Int} {l0 l l' : List Co.EnD} {A : List Co.PtD} (k : Wk w g a b c h l0 l A) (hs : Co.SetIs w' a b l') (hb : Co.But2 a b w w') (hk : Co.Kep l0 l' A) : Wk w' g a b c h l0 l' A :=
  ⟨(hb.block g k.ltg k.ga k.gb).trans k.blk, hs, k.map.keep (hb.block c k.map.lt (fun e => k.ac e.symm) (fun e => k.bc e.symm)), hk, k.ga, k.gb, k.gc, k.ac, k.bc⟩
/-- The map has turned. -/
theorem Wk.kept {w w' : World} {g a b c : Nat} {h : Int} {l0 l : List Co.EnD} {A A' : List Co.PtD} (k : Wk w g a b c h l0 l A) (hm : Co.SMap w' c (A'.map (Co.spot l0))) (hb : Tn [c] w w') (hk : Co.Kep l0 l A') : Wk w' g a b c h l0 l A' :=
  ⟨(hb.block g k.ltg (by simp [k.gc])).trans k.blk, k.set.keep (hb.block a k.set.lta (by simp [k.ac])) (hb.block b k.set.ltb (by simp [k.bc])), hm, hk, k.ga, k.gb, k.gc, k.ac, k.bc⟩
theorem spots_ok {l0 l : List Co.EnD} {A : List Co.PtD} (k : Co.Kep l0 l A) : ∀ x ∈ A.map (Co.spot l0), Co.PtOk x.id x.ix := fun x hx => by
  obtain ⟨p, hp, rfl⟩ := List.mem_map.1 hx
  exact k.ok p hp

/-- Four cells of a spot, stored. -/
def setSp (w : World) (n : Nat) (v : Int) (s : ByteArray) (t : Int) (q : Bool) : World := (((w.setCell ⟨n, 0, none⟩ (.int .i64 v)).setCell ⟨n, 1, none⟩ (.string s)).setCell ⟨n, 2, none⟩ (.int .i64 t)).setCell ⟨n, 3, none⟩ (.bool q)
theorem setSp_cells {w : World} {n : Nat} {x y z u : Value} (h0 : w.cell? ⟨n, 0, none⟩ = some x) (h1 : w.cell? ⟨n, 1, none⟩ = some y) (h2 : w.cell? ⟨n, 2, none⟩ = some z) (h3 : w.cell? ⟨n, 3, none⟩ = some u) (v : Int) (s : ByteArray) (t : Int) (q : Bool) :
    (setSp w n v s t q).cell? ⟨n, 0, none⟩ = some (.int .i64 v) ∧ (setSp w n v s t q).cell? ⟨n, 1, none⟩ = some (.string s) ∧ (setSp w n v s t q).cell? ⟨n, 2, none⟩ = some (.int .i64 t) ∧ (setSp w n v s t q).cell? ⟨n, 3, none⟩ = some (.bool q) := by
  unfold setSp
  refine ⟨?_, ?_, ?_, ?_⟩
  · rw [World.cell?_setCell_other _ _ _ _ (by simp), World.cell?_setCell_other _ _ _ _ (by simp), World.cell?_setCell_other _ _ _ _ (by simp)]
    exact World.cell?_setCell_same _ _ _ h0
  · rw [World.cell?_setCell_other _ _ _ _ (by simp), World.cell?_setCell_other _ _ _ _ (by simp)]
    exact World.cell?_setCell_same _ _ _ ((World.cell?_setCell_other _ _ _ _ (by simp)).trans h1)
  · rw [World.cell?_setCell_other _ _ _ _ (by simp)]
    exact World.cell?_setCell_same _ _ _ ((World.cell?_setCell_other _ _ _ _ (by simp)).trans ((World.cell?_setCell_other _ _ _ _ (by simp)).trans h2))
  · exact World.cell?_setCell_same _ _ _ ((World.cell?_setCell_other _ _ _ _ (by simp)).trans ((World.cell?_setCell_other _ _ _ _ (by simp)).trans ((World.cell?_setCell_other _ _ _ _ (by simp)).trans h3)))
theorem setSp_below {B n : Nat} {a w : World} (h : Below B a w) (hn : B ≤ n) (v : Int) (s : ByteArray) (t : Int) (q : Bool) : Below B a (setSp w n v s t q) := (((h.setCell hn _).setCell hn _).setCell hn _).setCell hn _

set_option maxHeartbeats 1000000 in
theorem look_any (g a b : Nat) (l : List Co.EnD) (p : ByteArray) (i : Int) (w : World) (hg : w.cell? ⟨g, 0, none⟩ = some (.pointer (some ⟨a, 0, none⟩))) (hs : Co.SetIs w a b l) (hp : Co.PtOk p i) :
    Calls Tryz.prog 61 #[.pointer (some ⟨g, 0, none⟩), .agg #[.string p, .int .u32 i]] w
      fun e w' => e = .returned (.agg #[.int .i64 (Co.atE l p i).val, .string (Co.atE l p i).scr, .int .i64 (Co.atE l p i).ht, .bool (Co.hasB l p i)]) ∧ Below w.heap.size w w' := by
  have lg := Co.lt_of_cell hg
  have la := hs.lta
  have lb := hs.ltb
  obtain ⟨w0, hw0⟩ : ∃ w0, w0 = (w.alloc (.cells #[.string p, .int .u32 i] 60)).alloc (.cells #[.int .i64 0, .string ⟨#[]⟩, .int .i64 0, .bool false] 135) := ⟨_, rfl⟩
  have z0 : w0.heap.size = w.heap.size + 2 := by rw [hw0]; simp
  have hb0 : Below w.heap.size w w0 := by rw [hw0]; exact ((Below.refl _ _).alloc (Nat.le_refl _) _).alloc (by simp) _
  have hn0 : w0.heap[w.heap.size + 1]? = some (.cells #[.int .i64 0, .string ⟨#[]⟩, .int .i64 0, .bool false] 135 (0, 0)) := by
    rw [hw0, show w.heap.size + 1 = (w.alloc (.cells #[.string p, .int .u32 i] 60)).heap.size from by simp]; exact heap_alloc_new _ _
  have p0 : w0.cell? ⟨w.heap.size, 0, none⟩ = some (.string p) := by rw [hw0]; simp
  have p1 : w0.cell? ⟨w.heap.size, 1, none⟩ = some (.int .u32 i) := by rw [hw0]; simp
  have c0 : w0.cell? ⟨g, 0, none⟩ = some (.pointer (some ⟨a, 0, none⟩)) := (hb0.cell (p := ⟨g, 0, none⟩) lg).trans hg
  have B0 := Lib.hid hb0
  have N0 := Lib.hid hn0
  have HW0 := Lib.hid hw0
  have Z0 := Lib.hid z0
  have CG := Lib.hid (fun W (hW : Below w0.heap.size w0 W) => Co.get_any a b l p i W ((hs.below hb0 la lb).below hW (by omega) (by omega)) hp)
  generalize Co.atE l p i = y at CG ⊢
  generalize Co.hasB l p i = q at CG ⊢
  obtain ⟨yi, yx, v, s, t⟩ := y
  simp only at CG ⊢
  have n1 : ¬ w0.heap.size = w.heap.size := by omega
  have n2 : ¬ w0.heap.size = g := by omega
  have hgl : g < w0.heap.size := by omega
  have hpl : w.heap.size < w0.heap.size := by omega
  clear hw0 hs hp hb0 hn0 z0 hg
  go_enter Tryz.func61, Tryz.ntmps61
  go_upto_region 1 with (fail)
  rw [show World.alloc (World.alloc w _) _ = w0 from HW0.out.symm]
  go_cut [5, 6] (fun s5 s6 wx => SpMid w0 q v s t s5 s6 wx)
  case first =>
    go_region_held3 (fun w' => w'.cell? ⟨g, 0, none⟩ = some (.pointer (some ⟨a, 0, none⟩)) ∧ w'.cell? ⟨w.heap.size, 0, none⟩ = some (.string p) ∧ w'.cell? ⟨w.heap.size, 1, none⟩ = some (.int .u32 i))
      (go_keep)
      (first | (go_at_call 41; refine (CG.out _ (by repeat (first | exact Below.refl _ _ | refine Below.drew ?_ | refine Below.alloc ?_ (by simp) _))).mono ?_; rintro e w1 ⟨rfl, hB1⟩; have n3 : ¬ w1.heap.size = g := (by have := hB1.size; simp at this; omega); have n4 : ¬ w1.heap.size = w.heap.size := (by have := hB1.size; simp at this; omega); have e1 := hB1.cell (p := ⟨g, 0, none⟩) (by simp; omega); have e2 := hB1.cell (p := ⟨w.heap.size, 0, none⟩) (by simp; omega); have e3 := hB1.cell (p := ⟨w.heap.size, 1, none⟩) (by simp; omega); first | (have hz := co_kept hB1 (heap_alloc_new w0 (.cells #[.int .i64 0, .string ⟨#[]⟩, .int .i64 0] 64)); obtain ⟨q0, q1, q2, qf, qs⟩ := hz) | skip))
    all_goals go_wp2_with fail
    all_goals go_meet
    · exact sp_mid1 (Below.refl _ _).drew hB1 q v s t
    · first | exact sp_mid2 ((Below.refl _ _).drew.alloc (by simp) _) hB1 (Nat.le_refl _) q v s t q0 q1 q2 qs | exact sp_mid2 ((Below.refl _ _).alloc (by simp) _).drew hB1 (Nat.le_refl _) q v s t q0 q1 q2 qs
  case rest =>
    obtain ⟨gg, rfl, hg1, hg2, rfl, hco, hbc⟩ := hcut
    obtain ⟨o0, o1, o2⟩ := hco.out
    have hh := (hbc.out.block (w.heap.size + 1) (by have := Z0.out; omega)).trans N0.out
    have u0 : wc.cell? ⟨w.heap.size + 1, 0, none⟩ = some (.int .i64 0) := Co.cell_in hh rfl
    have u1 : wc.cell? ⟨w.heap.size + 1, 1, none⟩ = some (.string ⟨#[]⟩) := Co.cell_in hh rfl
    have u2 : wc.cell? ⟨w.heap.size + 1, 2, none⟩ = some (.int .i64 0) := Co.cell_in hh rfl
    have u3 : wc.cell? ⟨w.heap.size + 1, 3, none⟩ = some (.bool false) := Co.cell_in hh rfl
    have uf := fun o => Lib.frozen_of_heap hh o
    have BC := Lib.hid (below_next B0.out (by have := Z0.out; omega) hbc.out)
    clear c0 p0 p1 hh hbc hco
    go_wp2_with fail
    obtain ⟨W3, hW3⟩ : ∃ W3, W3 = setSp wc (w.heap.size + 1) v s t q := ⟨_, rfl⟩
    obtain ⟨q0, q1, q2, q3⟩ := setSp_cells u0 u1 u2 u3 v s t q
    have B3 := Lib.hid (setSp_below BC.out (by omega : w.heap.size ≤ w.heap.size + 1) v s t q)
    unfold setSp at hW3 q0 q1 q2 q3 B3
    rw [← hW3] at q0 q1 q2 q3 B3 ⊢
    refine bodyPost_ret (v := .agg #[.int .i64 v, .string s, .int .i64 t, .bool q]) (by simp [results, Tryz.results61, go_sem, q0, q1, q2, q3]) rfl ?_
    exact ⟨rfl, B3.out⟩

end Go.Proofs.YtnmfjnfdnjjngaaGreatDoor

namespace Go.Proofs.YtnmfjnfdnjjngaaGreatDoor
open Go.RowKit Go.ChangeMaps
set_option maxRecDepth 100000

theorem set_tn (w : World) (c : Nat) (o : Obj) : Tn [c] w (setBlock w c o) :=
  ⟨rfl, rfl, rfl, by rw [Co.set_size]; exact Nat.le_refl _, fun k _ hn => Co.set_heap_other o (fun e => hn (by simp [e]))⟩
theorem spots_apart {l0 l : List Co.EnD} {A : List Co.PtD} (k : Co.Kep l0 l A) : Co.ApS (A.map (Co.spot l0)) := by
  unfold Co.ApS
  rw [List.pairwise_map]
  exact k.apart

set_option maxHeartbeats 2000000 in
theorem keep_any (g a b c : Nat) (h : Int) (l0 l : List Co.EnD) (A : List Co.PtD) (p : ByteArray) (i : Int) (w : World) (k : Wk w g a b c h l0 l A) (hp : Co.PtOk p i) :
    Calls Tryz.prog 86 #[.pointer (some ⟨g, 0, none⟩), .agg #[.string p, .int .u32 i]] w
      fun e w' => e = .returned (.tuple #[]) ∧ Wk w' g a b c h l0 l (Co.keepA A p i) ∧ Tn [c] w w' := by
  obtain ⟨w0, hw0⟩ : ∃ w0, w0 = w.alloc (.cells #[.string p, .int .u32 i] 60) := ⟨_, rfl⟩
  have z0 : w0.heap.size = w.heap.size + 1 := by rw [hw0]; simp
  have npc : w.heap.size ≠ c := fun e => by have := k.map.lt; omega
  have hb0 : Below w.heap.size w w0 := by rw [hw0]; exact (Below.refl _ _).alloc (Nat.le_refl _) _
  have k0 := k.below hb0 (Nat.le_refl _)
  have p0 : w0.cell? ⟨w.heap.size, 0, none⟩ = some (.string p) := by rw [hw0]; simp
  have p1 : w0.cell? ⟨w.heap.size, 1, none⟩ = some (.int .u32 i) := by rw [hw0]; simp
  have c2 := k0.c2
  have hla : g < w0.heap.size := k0.ltg
  have hlw : w.heap.size < w0.heap.size := by omega
  have c2a : ∀ o, (w0.alloc o).cell? ⟨g, 2, none⟩ = some (.map (some c)) := fun o => by rw [World.cell?_alloc_lt _ _ _ (by show g < _; omega)]; exact c2
  have p0a : ∀ o, (w0.alloc o).cell? ⟨w.heap.size, 0, none⟩ = some (.string p) := fun o => by rw [World.cell?_alloc_lt _ _ _ (by show w.heap.size < _; omega)]; exact p0
  have p1a : ∀ o, (w0.alloc o).cell? ⟨w.heap.size, 1, none⟩ = some (.int .u32 i) := fun o => by rw [World.cell?_alloc_lt _ _ _ (by show w.heap.size < _; omega)]; exact p1
  have r0 := (show Co.SMap w0.drew c _ from k0.map).look (spots_ok k.kep) (spots_apart k.kep) hp
  have r1 := fun o => (show Co.SMap (w0.alloc o).drew c _ from show Co.SMap (w0.alloc o) c _ from k0.map.keep (Below.heap_alloc _ _ _ k0.map.lt)).look (spots_ok k.kep) (spots_apart k.kep) hp
  rw [Co.hasS_spot] at r0
  simp only [Co.hasS_spot] at r1
  generalize Co.atS (A.map (Co.spot l0)) p i = y at r0 r1
  obtain ⟨yi, yx, v, s, t, th⟩ := y
  simp only at r0 r1
  have K0 := Lib.hid k0
  have B0 := Lib.hid hb0
  have HW0 := Lib.hid hw0
  have HP := Lib.hid hp
  have Z0 := Lib.hid z0
  obtain ⟨q, hq⟩ : ∃ q, Co.hasP A p i = q := ⟨_, rfl⟩
  rw [hq] at r0 r1
  have HQ := Lib.hid hq
  clear k k0 hb0 hw0 hp z0 hq
  go_enter Tryz.func86, Tryz.ntmps86
  go_upto_region 1 with (fail)
  rw [show World.alloc w _ = w0 from HW0.out.symm]
  go_wp2_with fail
  go_region
  obtain ⟨w4, hw4⟩ : ∃ w4, w4 = (w0.alloc (.cells #[.int .i64 v, .string s, .int .i64 t, .bool th] 135)).drew := ⟨_, rfl⟩
  rw [← hw4]
  have hb4 : Below w0.heap.size w0 w4 := by rw [hw4]; exact ((Below.refl _ _).alloc (Nat.le_refl _) _).drew
  have z4 : w4.heap.size = w0.heap.size + 1 := by rw [hw4]; simp
  have K4 := Lib.hid (K0.out.below hb4 (Nat.le_refl _))
  have B4 := Lib.hid (below_next B0.out (by have := Z0.out; omega) hb4)
  have HB4 := Lib.hid hb4
  clear r0 r1 c2 c2a p0a p1a hw4
  cases q with
  | true =>
    clear p0 p1
    go_wp2_with fail
    go_end0
    refine ⟨rfl, ?_, Tn.of_below B4.out⟩
    unfold Co.keepA
    rw [if_pos HQ.out]
    exact K4.out
  | false =>
    have e0 := (hb4.cell (p := ⟨w.heap.size, 0, none⟩) hlw).trans p0
    have e1 := (hb4.cell (p := ⟨w.heap.size, 1, none⟩) hlw).trans p1
    have c2 := K4.out.c2
    obtain ⟨v1, v2⟩ := K4.out.kep.view p i HQ.out
    have CL := Lib.hid (fun W (hW : Below w4.heap.size w4 W) => look_any g a b l p i W ((K4.out.below hW (Nat.le_refl _)).c0) ((K4.out.below hW (Nat.le_refl _)).set) HP.out)
    rw [v1, v2] at CL
    obtain ⟨o1, u1, u2⟩ := K4.out.map.upd (spots_ok K4.out.kep) (x := Co.spot l0 ⟨p, i⟩) HP.out (by rw [Co.hasS_spot]; exact HQ.out)
    have U1 := Lib.hid (show ∀ W : World, W.heap[c]? = w4.heap[c]? → (Instr.mapUpdate 87 (.map (some c)) (.agg #[.string p, .int .u32 i]) (.agg #[.int .i64 (Co.atE l0 p i).val, .string (Co.atE l0 p i).scr, .int .i64 (Co.atE l0 p i).ht, .bool (Co.hasB l0 p i)])).run Tryz.prog W = .ok () (setBlock W c o1) from u1)
    have U2 := Lib.hid (show ∀ W : World, W.heap[c]? = some o1 → Co.SMap W c ((Co.keepA A p i).map (Co.spot l0)) from fun W hW => by
      have := u2 W hW
      unfold Co.keepA
      rw [if_neg (by rw [HQ.out]; decide), List.map_append]
      exact this)
    generalize Co.atE l0 p i = y at CL U1
    generalize Co.hasB l0 p i = q2 at CL U1
    obtain ⟨yi, yx, v', s', t'⟩ := y
    simp only at CL U1
    have hlg : g < w4.heap.size := K4.out.ltg
    have hlp : w.heap.size < w4.heap.size := by omega
    have hlc : c < w4.heap.size := K4.out.map.lt
    clear v1 v2 u1 u2 p0 p1 hb4 z4 hla hlw
    go_wp2_with fail
    go_region_held3 (fun w' => w'.cell? ⟨g, 2, none⟩ = some (.map (some c)) ∧ w'.cell? ⟨w.heap.size, 0, none⟩ = some (.string p) ∧ w'.cell? ⟨w.heap.size, 1, none⟩ = some (.int .u32 i))
      (first | go_keep | exact ⟨g1, g2, g3⟩)
      (first | (go_at_call 61; refine (CL.out _ (by repeat (first | exact Below.refl _ _ | refine Below.drew ?_ | refine Below.alloc ?_ (by simp) _))).mono ?_; rintro e w1 ⟨rfl, hB1⟩; have f1 := hB1.cell (p := ⟨g, 2, none⟩) (by simp; omega); have f2 := hB1.cell (p := ⟨w.heap.size, 0, none⟩) (by simp; omega); have f3 := hB1.cell (p := ⟨w.heap.size, 1, none⟩) (by simp; omega); have m1 := U1.out w1 (hB1.block c (by simp; omega)); have g1 := (World.cell?_of_block (w := w1) (a := ⟨g, 2, none⟩) (Co.set_heap_other o1 K4.out.gc)).trans f1; have g2 := (World.cell?_of_block (w := w1) (a := ⟨w.heap.size, 0, none⟩) (Co.set_heap_other o1 npc)).trans f2; have g3 := (World.cell?_of_block (w := w1) (a := ⟨w.heap.size, 1, none⟩) (Co.set_heap_other o1 npc)).trans f3))
    all_goals go_wp2_with fail
    all_goals go_end0
    all_goals
      have hb1 : Below w4.heap.size w4 w1 := (Below.refl _ _).drew.trans hB1
      exact ⟨rfl, (K4.out.below hb1 (Nat.le_refl _)).kept (U2.out _ (Co.set_heap_at o1 (by have := hb1.size; omega))) (set_tn _ _ _) (K4.out.kep.keep HP.out), ((Tn.of_below B4.out).next hb1).trans (set_tn _ _ _)⟩

end Go.Proofs.YtnmfjnfdnjjngaaGreatDoor
