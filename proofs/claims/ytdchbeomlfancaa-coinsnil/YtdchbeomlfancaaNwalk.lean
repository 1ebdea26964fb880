/-
  The statement CoinsNil, walked.
-/
import Derived.Test.YtdchbeomlfancaaWk
import Derived.Test.YtdchbeomlfancaaPnt
import Derived.Test.YtdchbeomlfancaaNl
import Derived.Test.YtdchbeomlfancaaEqs
import Derived.Test.YtdchbeomlfancaaRfd
import Derived.BigQuiet
namespace Go.Proofs.Ytdchbeomlfancaa
open Go.RowKit

set_option maxHeartbeats 4000000 in
set_option maxRecDepth 100000 in
theorem nil_law (a : AcD) (w : World) (ok : a.Ok) : Calls Try.prog 5 #[.agg (acL a)] w fun e w' => e = .returned (.bool true) ∧ Below w.heap.size w w' := by
  have CP := Lib.hid (fun V => point_any a V ok)
  have CC := Lib.hid (fun V => coin_any a V ok)
  obtain ⟨d, i8, x8, v, t, s, rid, rix, od⟩ := a
  obtain ⟨pi, hpi⟩ : ∃ p, p = ptI ⟨d, i8, x8, v, t, s, rid, rix, od⟩ := ⟨_, rfl⟩
  obtain ⟨px, hpx⟩ : ∃ p, p = ptX ⟨d, i8, x8, v, t, s, rid, rix, od⟩ := ⟨_, rfl⟩
  rw [← hpi, ← hpx] at CP
  simp only [acL] at CP CC ⊢
  obtain ⟨cs, hcs⟩ : ∃ c, c = cut40 s := ⟨_, rfl⟩
  rw [← hcs] at CC
  clear hpi hpx hcs ok
  obtain ⟨W, hW⟩ : ∃ W, W = w.alloc (.cells #[.int .u8 d, .int .u8 i8, .int .u8 x8, .int .i64 v, .int .i64 t, .string s, .string rid, .int .u32 rix, .bool od] 30) := ⟨_, rfl⟩
  have HW := Lib.hid hW
  have hz : W.heap.size = w.heap.size + 1 := by rw [hW]; simp
  have B0 := Lib.hid (show Below w.heap.size w W from by rw [hW]; exact (Below.refl _ _).alloc (Nat.le_refl _) _)
  have A0 := Lib.hid (show AcAt W w.heap.size 0 ⟨d, i8, x8, v, t, s, rid, rix, od⟩ from by rw [hW]; exact AcAt.new w ⟨d, i8, x8, v, t, s, rid, rix, od⟩)
  have ec := run_eql_co
  have ecg := co_guard
  have e1 : coB 0 ⟨#[]⟩ 0 0 ⟨#[]⟩ 0 = true := coB_refl _ _ _
  obtain ⟨a0, a1, a2, a3, a4, a5, a6, a7, a8⟩ := A0.out
  simp only [Nat.zero_add] at a0 a1 a2 a3 a4 a5 a6 a7 a8
  clear hW
  go_enter Try.func5, Try.ntmps5
  go_upto_region 1 with (fail)
  rw [show World.alloc w _ = W from HW.out.symm]
  go_wp2_with fail
  refine (CP.out _).mono ?_
  rintro e w1 ⟨rfl, hb1⟩
  have z1 := hb1.size
  have B1 := Lib.hid hb1
  clear hb1 a0 a1 a2 a3 a4 a5 a6 a7 a8
  go_wp2_with fail
  refine (get_nil pi px w1).mono ?_
  rintro e w2 ⟨rfl, hb2⟩
  have z2 := hb2.size
  obtain ⟨w3, hw3⟩ : ∃ w3, w3 = w2.alloc (.cells #[.int .i64 0, .string ⟨#[]⟩, .int .i64 0] 35) := ⟨_, rfl⟩
  have z3 : w3.heap.size = w2.heap.size + 1 := by rw [hw3]; simp
  have hb3 : Below w2.heap.size w2 w3 := by rw [hw3]; exact (Below.refl _ _).alloc (Nat.le_refl _) _
  have c3 := Lib.hid (show w3.heap[w2.heap.size]? = some (.cells #[.int .i64 0, .string ⟨#[]⟩, .int .i64 0] 35) from by rw [hw3]; exact heap_alloc_new _ _)
  have B3 := Lib.hid (show Below W.heap.size W w3 from (B1.out.trans (hb2.mono (by omega))).trans (hb3.mono (by omega)))
  obtain ⟨a0, a1, a2, a3, a4, a5, a6, a7, a8⟩ := A0.out.block (B3.out.block _ (by omega))
  simp only [Nat.zero_add] at a0 a1 a2 a3 a4 a5 a6 a7 a8
  have HW3 := Lib.hid hw3
  clear hw3 hb3 hb2
  go_upto_region 3 with (fail)
  rw [show World.alloc w2 _ = w3 from HW3.out.symm]
  go_wp2_with fail
  refine (CP.out _).mono ?_
  rintro e w4 ⟨rfl, hb4⟩
  have z4 := hb4.size
  have B4 := Lib.hid (B3.out.trans (hb4.mono (by omega)))
  have B4' := Lib.hid hb4
  clear hb4 a0 a1 a2 a3 a4 a5 a6 a7 a8
  go_wp2_with fail
  refine (take_nil pi px w4).mono ?_
  rintro e w5 ⟨rfl, hb5⟩
  have z5 := hb5.size
  obtain ⟨w6, hw6⟩ : ∃ w6, w6 = w5.alloc (.cells #[.int .i64 0, .string ⟨#[]⟩, .int .i64 0] 35) := ⟨_, rfl⟩
  have z6 : w6.heap.size = w5.heap.size + 1 := by rw [hw6]; simp
  have hb6 : Below w5.heap.size w5 w6 := by rw [hw6]; exact (Below.refl _ _).alloc (Nat.le_refl _) _
  have c6 : w6.heap[w5.heap.size]? = some (.cells #[.int .i64 0, .string ⟨#[]⟩, .int .i64 0] 35) := by rw [hw6]; exact heap_alloc_new _ _
  have c36 : w6.heap[w2.heap.size]? = some (.cells #[.int .i64 0, .string ⟨#[]⟩, .int .i64 0] 35) := ((hb6.block _ (by omega)).trans ((hb5.block _ (by omega)).trans (B4'.out.block _ (by omega)))).trans c3.out
  have B6 := Lib.hid (show Below W.heap.size W w6 from (B4.out.trans (hb5.mono (by omega))).trans (hb6.mono (by omega)))
  have hl0 : w.heap.size < w6.heap.size := by omega
  have hl2 : w2.heap.size < w6.heap.size := by omega
  have hl5 : w5.heap.size < w6.heap.size := by omega
  have A6 := A0.out.block (B6.out.block _ (by omega))
  have AA : ∀ x : After w6, AcAt x.val w.heap.size 0 ⟨d, i8, x8, v, t, s, rid, rix, od⟩ := fun x => A6.block (x.ok.block _ hl0)
  have g0 : ∀ x : After w6, x.val.cell? ⟨w.heap.size, 0, none⟩ = some (.int .u8 d) := fun x => (AA x).1
  have g1 : ∀ x : After w6, x.val.cell? ⟨w.heap.size, 1, none⟩ = some (.int .u8 i8) := fun x => (AA x).2.1
  have g2 : ∀ x : After w6, x.val.cell? ⟨w.heap.size, 2, none⟩ = some (.int .u8 x8) := fun x => (AA x).2.2.1
  have g3 : ∀ x : After w6, x.val.cell? ⟨w.heap.size, 3, none⟩ = some (.int .i64 v) := fun x => (AA x).2.2.2.1
  have g4 : ∀ x : After w6, x.val.cell? ⟨w.heap.size, 4, none⟩ = some (.int .i64 t) := fun x => (AA x).2.2.2.2.1
  have g5 : ∀ x : After w6, x.val.cell? ⟨w.heap.size, 5, none⟩ = some (.string s) := fun x => (AA x).2.2.2.2.2.1
  have g6 : ∀ x : After w6, x.val.cell? ⟨w.heap.size, 6, none⟩ = some (.string rid) := fun x => (AA x).2.2.2.2.2.2.1
  have g7 : ∀ x : After w6, x.val.cell? ⟨w.heap.size, 7, none⟩ = some (.int .u32 rix) := fun x => (AA x).2.2.2.2.2.2.2.1
  have g8 : ∀ x : After w6, x.val.cell? ⟨w.heap.size, 8, none⟩ = some (.bool od) := fun x => (AA x).2.2.2.2.2.2.2.2
  have h0 : ∀ x : After w6, x.val.cell? ⟨w2.heap.size, 0, none⟩ = some (.int .i64 0) := fun x => cell_in (o := 0) ((x.ok.block _ hl2).trans c36) rfl
  have h1 : ∀ x : After w6, x.val.cell? ⟨w2.heap.size, 1, none⟩ = some (.string ⟨#[]⟩) := fun x => cell_in (o := 1) ((x.ok.block _ hl2).trans c36) rfl
  have h2 : ∀ x : After w6, x.val.cell? ⟨w2.heap.size, 2, none⟩ = some (.int .i64 0) := fun x => cell_in (o := 2) ((x.ok.block _ hl2).trans c36) rfl
  have k0 : ∀ x : After w6, x.val.cell? ⟨w5.heap.size, 0, none⟩ = some (.int .i64 0) := fun x => cell_in (o := 0) ((x.ok.block _ hl5).trans c6) rfl
  have k1 : ∀ x : After w6, x.val.cell? ⟨w5.heap.size, 1, none⟩ = some (.string ⟨#[]⟩) := fun x => cell_in (o := 1) ((x.ok.block _ hl5).trans c6) rfl
  have k2 : ∀ x : After w6, x.val.cell? ⟨w5.heap.size, 2, none⟩ = some (.int .i64 0) := fun x => cell_in (o := 2) ((x.ok.block _ hl5).trans c6) rfl
  have HN : Nonempty (After w6) := ⟨⟨w6, Below.refl _ _⟩⟩
  have CW := Lib.hid (fun x : After w6 => wakes_any x.val)
  have CPx := Lib.hid (fun x : After w6 => CP.out x.val)
  have CCx := Lib.hid (fun x : After w6 => CC.out x.val)
  have CPut := Lib.hid (fun x : After w6 => put_nil pi px v cs t x.val)
  have CLen := Lib.hid (fun x : After w6 => (len_nil x.val).mono fun e w' (h : e = .returned (.int .i64 0) ∧ w' = x.val) => show e = .returned (.int .i64 0) ∧ Below x.val.heap.size x.val w' from ⟨h.1, by rw [h.2]; exact Below.refl _ _⟩)
  have CTot := Lib.hid (fun x : After w6 => (total_nil x.val).mono fun e w' (h : e = .returned (.int .i64 0) ∧ w' = x.val) => show e = .returned (.int .i64 0) ∧ Below x.val.heap.size x.val w' from ⟨h.1, by rw [h.2]; exact Below.refl _ _⟩)
  have CAll := Lib.hid (fun x : After w6 => (all_nil x.val).mono fun e w' (h : e = .returned (.slice none 0 0) ∧ w' = x.val) => show e = .returned (.slice none 0 0) ∧ Below x.val.heap.size x.val w' from ⟨h.1, by rw [h.2]; exact Below.refl _ _⟩)
  have CCpy := Lib.hid (fun x : After w6 => (copy_nil x.val).mono fun e w' (h : e = .returned (.pointer none) ∧ w' = x.val) => show e = .returned (.pointer none) ∧ Below x.val.heap.size x.val w' from ⟨h.1, by rw [h.2]; exact Below.refl _ _⟩)
  have HW6 := Lib.hid hw6
  clear hw6 hb6 hb5 c6 c36 AA A6 A0 CP CC
  go_upto_region 4 with (fail)
  rw [show World.alloc w5 _ = w6 from HW6.out.symm]
  refine wp_region_after (by kernel_rfl) (by kernel_rfl) ?_
  repeat (go_big_quiet_step ((first
    | (go_at_call 17; exact After.call _ (CW.out _))
    | (go_at_call 8; exact After.call _ (CPx.out _))
    | (go_at_call 14; exact After.call _ (CCx.out _))
    | (go_at_call 13; exact After.call _ (CPut.out _))
    | (go_at_call 19; exact After.call _ (CLen.out _))
    | (go_at_call 21; exact After.call _ (CTot.out _))
    | (go_at_call 18; exact After.call _ (CAll.out _))
    | (go_at_call 20; exact After.call _ (CCpy.out _)))))
  refine wpQuiet_nil ?_
  rintro _ ⟨x, rfl⟩
  have hx := x.ok
  go_wp2_with fail
  go_ret
  exact ⟨rfl, B0.out.trans ((B6.out.trans (hx.mono (by omega))).mono (by omega))⟩

end Go.Proofs.Ytdchbeomlfancaa
