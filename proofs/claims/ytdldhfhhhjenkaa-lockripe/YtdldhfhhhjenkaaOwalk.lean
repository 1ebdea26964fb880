/-
  The statement LockOpens, walked.
-/
import Derived.Test.YtdldhfhhhjenkaaSpn
import Derived.Test.YtdldhfhhhjenkaaRopn
namespace Go.Proofs.Ytdldhfhhhjenkaa
open Go.RowKit

/-- The two places that LockOpens asks for. -/
def two (i j : Int) (k : Nat) : Int := if k = 0 then i else j

set_option maxHeartbeats 4000000 in
set_option maxRecDepth 100000 in
theorem opens_law (xs : List BrD) (sc : ByteArray) (t : TxD) (i cn ht : Int) (raw own : Bool) (br tg : Int) (vb vi vo : Value) (w : World) (hb : Brs w 0 w.heap.size vb xs) (hok : ∀ x ∈ xs, x.Ok) (hl : xs.length ≤ maxLen) (hs : sc.size ≤ maxLen)
    (htx : TxAt w 0 w.heap.size vi vo t) (hc : t.Came) (hi : -9223372036854775808 ≤ i ∧ i ≤ 9223372036854775807) (hbr : 0 ≤ br ∧ br ≤ 255) (htg : 0 ≤ tg ∧ tg ≤ 255) :
    Calls Try.prog 5 #[.agg #[vb, .string sc, .int .u32 t.ver, vi, vo, .int .u32 t.lock, .int .i64 i, .int .i64 cn, .int .i64 ht, .bool raw, .bool own, .int .u8 br, .int .u8 tg]] w fun e w' => e = .returned (.bool true) ∧ Below w.heap.size w w' := by
  obtain ⟨w0, hw0⟩ : ∃ w0, w0 = w.alloc (.cells #[vb, .string sc, .int .u32 t.ver, vi, vo, .int .u32 t.lock, .int .i64 i, .int .i64 cn, .int .i64 ht, .bool raw, .bool own, .int .u8 br, .int .u8 tg] 55) := ⟨_, rfl⟩
  have z0 : w0.heap.size = w.heap.size + 1 := by rw [hw0]; simp
  have hb0 : Below w.heap.size w w0 := by rw [hw0]; exact (Below.refl _ _).alloc (Nat.le_refl _) _
  have hq : w0.heap[w.heap.size]? = some (.cells #[vb, .string sc, .int .u32 t.ver, vi, vo, .int .u32 t.lock, .int .i64 i, .int .i64 cn, .int .i64 ht, .bool raw, .bool own, .int .u8 br, .int .u8 tg] 55 (0, 0)) := by rw [hw0]; exact heap_alloc_new w _
  have CS := Lib.hid (script_any xs sc raw vb (.int .u32 t.ver) vi vo (.int .u32 t.lock) (.int .i64 i) (.int .i64 cn) (.int .i64 ht) (.bool own) (.int .u8 br) (.int .u8 tg) w0 ((hb.keep (Kept.of_below hb0 (Nat.le_refl _))).wide (Nat.le_refl _) (by omega)) hok hl hs)
  have CP := Lib.hid (fun W (hW : Below w.heap.size w W) => spending_any t i own br tg vb (.string sc) (.int .i64 cn) (.int .i64 ht) (.bool raw) vi vo W ((htx.keep (Kept.of_below hW (Nat.le_refl _))).wide (Nat.le_refl _) hW.size) hc hi hbr htg)
  have LS := scS_len xs sc raw
  generalize scS xs sc raw = S at CS LS
  have HW0 := Lib.hid hw0
  have B0 := Lib.hid hb0
  have HQ := Lib.hid hq
  have cell := fun (W : World) (hW : Below w0.heap.size w0 W) => (hW.block w.heap.size (by omega)).trans hq
  have a0 : w0.cell? ⟨w.heap.size, 0, none⟩ = some vb := by rw [Lib.cell_of_heap hq]; rfl
  have a1 : w0.cell? ⟨w.heap.size, 1, none⟩ = some (.string sc) := by rw [Lib.cell_of_heap hq]; rfl
  have a2 : w0.cell? ⟨w.heap.size, 2, none⟩ = some (.int .u32 t.ver) := by rw [Lib.cell_of_heap hq]; rfl
  have a3 : w0.cell? ⟨w.heap.size, 3, none⟩ = some vi := by rw [Lib.cell_of_heap hq]; rfl
  have a4 : w0.cell? ⟨w.heap.size, 4, none⟩ = some vo := by rw [Lib.cell_of_heap hq]; rfl
  have a5 : w0.cell? ⟨w.heap.size, 5, none⟩ = some (.int .u32 t.lock) := by rw [Lib.cell_of_heap hq]; rfl
  have a6 : w0.cell? ⟨w.heap.size, 6, none⟩ = some (.int .i64 i) := by rw [Lib.cell_of_heap hq]; rfl
  have a7 : w0.cell? ⟨w.heap.size, 7, none⟩ = some (.int .i64 cn) := by rw [Lib.cell_of_heap hq]; rfl
  have a8 : w0.cell? ⟨w.heap.size, 8, none⟩ = some (.int .i64 ht) := by rw [Lib.cell_of_heap hq]; rfl
  have a9 : w0.cell? ⟨w.heap.size, 9, none⟩ = some (.bool raw) := by rw [Lib.cell_of_heap hq]; rfl
  have a10 : w0.cell? ⟨w.heap.size, 10, none⟩ = some (.bool own) := by rw [Lib.cell_of_heap hq]; rfl
  have a11 : w0.cell? ⟨w.heap.size, 11, none⟩ = some (.int .u8 br) := by rw [Lib.cell_of_heap hq]; rfl
  have a12 : w0.cell? ⟨w.heap.size, 12, none⟩ = some (.int .u8 tg) := by rw [Lib.cell_of_heap hq]; rfl
  have HA := Lib.hid (fun (W : World) (hW : Below w0.heap.size w0 W) (o : Nat) => hW.cell (p := ⟨w.heap.size, o, none⟩) (show w.heap.size < w0.heap.size by omega))
  have AL := Lib.hid (And.intro a0 (And.intro a1 (And.intro a2 (And.intro a3 (And.intro a4 (And.intro a5 (And.intro a6 (And.intro a7 (And.intro a8 (And.intro a9 (And.intro a10 (And.intro a11 a12))))))))))))
  clear hb hok hl hs htx hc hw0 hb0 hq cell
  go_enter Try.func5, Try.ntmps5
  go_upto_region 1 with (fail)
  rw [show World.alloc w _ = w0 from HW0.out.symm]
  go_wp2_with fail
  refine CS.out.mono ?_
  rintro e w1 ⟨rfl, hb1⟩
  have L1 := Lib.hid hb1
  clear hb1 CS a0 a1 a2 a3 a4 a5 a6 a7 a8 a9 a10 a11 a12
  obtain ⟨a0, a1, a2, a3, a4, a5, a6, a7, a8, a9, a10, a11, a12⟩ := AL.out
  rw [← HA.out w1 L1.out] at a0 a1 a2 a3 a4 a5 a6 a7 a8 a9 a10 a11 a12
  have K1 := Lib.hid (below_next B0.out (by omega) L1.out)
  go_wp2_with fail
  refine (CP.out w1 K1.out).mono ?_
  rintro e w2 ⟨u, Ai, Ao, ci, co, k, rfl, huo, hut, hkb, hb2⟩
  have z2 := hb2.size
  obtain ⟨w3, hw3⟩ : ∃ w3, w3 = w2.alloc (.cells #[.int .u32 u.ver, .slice Ai u.ins.length ci, .slice Ao u.outs.length co, .int .u32 u.lock] 53) := ⟨_, rfl⟩
  have z3 : w3.heap.size = w2.heap.size + 1 := by rw [hw3]; simp
  have hb3 : Below w2.heap.size w2 w3 := by rw [hw3]; exact (Below.refl _ _).alloc (Nat.le_refl _) _
  have BX := Lib.hid (show Boxed w3 w2.heap.size (.int .u32 u.ver) (.slice Ai u.ins.length ci) (.slice Ao u.outs.length co) (.int .u32 u.lock) from by rw [hw3]; exact Boxed.new _ _ _ _ _ _)
  have TX := Lib.hid (show TxAt w3 0 w3.heap.size (.slice Ai u.ins.length ci) (.slice Ao u.outs.length co) u from (hut.keep (Kept.of_below hb3 (Nat.le_refl _))).wide (Nat.le_refl _) (by omega))
  have L3 := Lib.hid (below_next (below_next L1.out L1.out.size hb2) (by have := L1.out.size; omega) hb3)
  have HO := Lib.hid huo
  have HW3 := Lib.hid hw3
  clear hb2 hb3 hw3 hut huo a0 a1 a2 a3 a4 a5 a6 a7 a8 a9 a10 a11 a12
  have hlt : w2.heap.size < w3.heap.size := by omega
  have G := fun W (hW : Below w3.heap.size w3 W) => (TX.out.keep (Kept.of_below hW (Nat.le_refl _))).wide (Nat.le_refl _) hW.size
  have a6 : w3.cell? ⟨w.heap.size, 6, none⟩ = some (.int .i64 i) := (HA.out w3 L3.out 6).trans AL.out.2.2.2.2.2.2.1
  obtain ⟨n, hn⟩ : ∃ n, u.ins.length = n := ⟨_, rfl⟩
  obtain ⟨no, hno⟩ : ∃ n, u.outs.length = n := ⟨_, rfl⟩
  obtain ⟨w4, hw4⟩ : ∃ w4, w4 = w3.alloc (.cells #[.int .i64 k, .int .i64 i] 3) := ⟨_, rfl⟩
  have z4 : w4.heap.size = w3.heap.size + 1 := by rw [hw4]; simp
  have hb4 : Below w3.heap.size w3 w4 := by rw [hw4]; exact (Below.refl _ _).alloc (Nat.le_refl _) _
  have CO := Lib.hid (fun (p : Int) W (hW : Below w4.heap.size w4 W) => open_any S u p _ _ W (G W (below_next hb4 hb4.size hW)) HO.out LS)
  have CD := Lib.hid (fun (p : Int) W (hW : Below w4.heap.size w4 W) => ropen_any S u p _ _ W (G W (below_next hb4 hb4.size hW)) HO.out LS)
  have BB := Lib.hid (fun W (hW : Below w4.heap.size w4 W) => BX.out.below hlt (below_next hb4 hb4.size hW))
  have R0 := Lib.hid (fun W (hW : Below w4.heap.size w4 W) => (hW.cell (p := ⟨w3.heap.size, 0, none⟩) (by show w3.heap.size < _; omega)).trans (show w4.cell? ⟨w3.heap.size, 0, none⟩ = some (.int .i64 k) from by rw [hw4]; simp))
  have R1 := Lib.hid (fun W (hW : Below w4.heap.size w4 W) => (hW.cell (p := ⟨w3.heap.size, 1, none⟩) (by show w3.heap.size < _; omega)).trans (show w4.cell? ⟨w3.heap.size, 1, none⟩ = some (.int .i64 i) from by rw [hw4]; simp))
  have KK := Lib.hid (fun W (hW : Below w4.heap.size w4 W) => below_next B0.out (by omega) (below_next L3.out L3.out.size (below_next hb4 hb4.size hW)))
  rw [hn, hno] at CO CD BB HW3 ⊢
  have HW4 := Lib.hid hw4
  clear G hn hno hw4 hb4
  go_upto_region 3 with (fail)
  rw [show World.alloc w2 _ = w3 from HW3.out.symm]
  go_wp2_with fail
  rw [show World.alloc w3 _ = w4 from HW4.out.symm]
  go_loopg [7, 20] 2 (fun gg _ s20 wr => ∃ q : Nat, q ≤ 2 ∧ 2 - q ≤ gg ∧ s20 = .int .i64 q ∧ Hid (Below w4.heap.size w4 wr))
  case atStart => exact ⟨0, by omega, by omega, rfl, Lib.hid (Below.refl _ _)⟩
  case round =>
    clear a6
    obtain ⟨q, hq, hg, rfl, SS⟩ := hrel
    obtain ⟨w5, hw5⟩ : ∃ w5, w5 = wr := ⟨_, rfl⟩
    subst hw5
    have z5 := SS.out.size
    by_cases hlt2 : q < 2
    · have k1 : (q : Int) < 2 := by omega
      have k2 : decide ((q : Int) < 2) = true := decide_eq_true k1
      obtain ⟨p, hp⟩ : ∃ p, two k i q = p := ⟨_, rfl⟩
      have cR : w5.cell? ⟨w3.heap.size, q, none⟩ = some (.int .i64 p) := by
        rw [← hp]
        rcases (show q = 0 ∨ q = 1 from by omega) with rfl | rfl
        · exact R0.out _ SS.out
        · exact R1.out _ SS.out
      rw [z3] at cR
      clear hp
      have CA := Lib.hid (fun a : After w5 => CO.out p a.val (below_next SS.out SS.out.size a.ok))
      have CE := Lib.hid (fun a : After w5 => CD.out p a.val (below_next SS.out SS.out.size a.ok))
      have BA := fun a : After w5 => BB.out a.val (below_next SS.out SS.out.size a.ok)
      have r0 := fun a : After w5 => (BA a).1
      have r1 := fun a : After w5 => (BA a).2.1
      have r2 := fun a : After w5 => (BA a).2.2.1
      have r3 := fun a : After w5 => (BA a).2.2.2
      have hne : Nonempty (After w5) := ⟨⟨w5, Below.refl _ _⟩⟩
      obtain ⟨oe, hoe⟩ : ∃ e, opE S u p = e := ⟨_, rfl⟩
      rw [hoe] at CA CE
      have q0 : (oe != oe) = false := by simp
      clear BA hoe
      go_upto_region 6 with (fail)
      refine wp_region_after (by kernel_rfl) (by kernel_rfl) ?_
      repeat (go_big_quiet_step (first | (go_at_call 23; with_reducible exact After.call _ (CA.out _)) | (go_at_call 24; with_reducible exact After.call _ (CE.out _))))
      refine wpQuiet_nil ?_
      rintro _ ⟨a, rfl⟩
      have hW := a.ok
      obtain ⟨W, hWe⟩ : ∃ W, W = a.val := ⟨_, rfl⟩
      rw [← hWe] at hW ⊢
      have S6 := Lib.hid (below_next SS.out SS.out.size hW)
      clear hWe r0 r1 r2 r3 hne CA CE hW cR
      go_wp2_with fail
      go_roundg (2 - (q + 1))
      case measure => omega
      case rel => exact ⟨q + 1, by omega, by omega, by go_num, S6⟩
    · have k1 : ¬ (q : Int) < 2 := by omega
      go_wp2_with fail
      refine (wakes_any w5).mono ?_
      rintro e w8 ⟨rfl, hb8⟩
      have K8 := Lib.hid (KK.out w8 (below_next SS.out SS.out.size hb8))
      clear hb8
      go_wp2_with fail
      go_ret
      exact ⟨rfl, K8.out⟩

end Go.Proofs.Ytdldhfhhhjenkaa
