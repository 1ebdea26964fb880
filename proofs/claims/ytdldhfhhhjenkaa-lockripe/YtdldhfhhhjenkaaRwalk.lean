/-
  The statement LockRipe, walked.
-/
import Derived.Test.YtdldhfhhhjenkaaOwalk
import Derived.Test.YtdldhfhhhjenkaaRrip
namespace Go.Proofs.Ytdldhfhhhjenkaa
open Go.RowKit

/-- Once it may, it may later. -/
theorem rp_later {t : TxD} {i c h : Int} (hr : rpB t i c h = true) (hh : h < 1000000) : rpB t i c (h + 1) = true := by
  unfold rpB at hr ⊢
  split at hr
  · cases hr
  rename_i h0
  rw [if_neg h0]
  split at hr
  · cases hr
  · simp only [Bool.and_eq_true, htB, rpX, Bool.or_eq_true, decide_eq_true_eq] at hr ⊢
    obtain ⟨⟨h1, h2⟩, h3, h4⟩ := hr
    refine ⟨⟨h1, by omega⟩, by omega, ?_⟩
    rcases h4 with h4 | h4
    · exact .inl (by omega)
    · exact .inr h4
theorem rp_low {t : TxD} {i c h : Int} (hr : rpB t i c h = true) : 0 ≤ h := by
  unfold rpB at hr
  split at hr
  · cases hr
  split at hr
  · cases hr
  · simp only [Bool.and_eq_true, htB, decide_eq_true_eq] at hr
    omega
/-- A row of two ints of its own. -/
structure Row2 (w : World) (g : Nat) (i j : Int) : Prop where
  a : w.cell? ⟨g, 0, none⟩ = some (.int .i64 i)
  b : w.cell? ⟨g, 1, none⟩ = some (.int .i64 j)
theorem Row2.at {w : World} {g : Nat} {i j : Int} (h : Row2 w g i j) {q : Nat} (hq : q < 2) : w.cell? ⟨g, q, none⟩ = some (.int .i64 (two i j q)) := by
  rcases (show q = 0 ∨ q = 1 from by omega) with rfl | rfl
  · exact h.a
  · exact h.b
theorem Row2.below {w w' : World} {B g : Nat} {i j : Int} (h : Row2 w g i j) (hg : g < B) (hb : Below B w w') : Row2 w' g i j := ⟨(hb.cell (p := ⟨g, 0, none⟩) hg).trans h.a, (hb.cell (p := ⟨g, 1, none⟩) hg).trans h.b⟩
theorem Row2.new (w : World) (i j : Int) (t : TypeId) : Row2 (w.alloc (.cells #[.int .i64 i, .int .i64 j] t)) w.heap.size i j := ⟨by simp, by simp⟩

set_option maxHeartbeats 4000000 in
set_option maxRecDepth 100000 in
theorem ripe_law (sc : ByteArray) (t : TxD) (i cn ht : Int) (raw own : Bool) (br tg : Int) (vb vi vo : Value) (w : World)
    (htx : TxAt w 0 w.heap.size vi vo t) (hc : t.Came) (hi : -9223372036854775808 ≤ i ∧ i ≤ 9223372036854775807) (hbr : 0 ≤ br ∧ br ≤ 255) (htg : 0 ≤ tg ∧ tg ≤ 255) :
    Calls Try.prog 6 #[.agg #[vb, .string sc, .int .u32 t.ver, vi, vo, .int .u32 t.lock, .int .i64 i, .int .i64 cn, .int .i64 ht, .bool raw, .bool own, .int .u8 br, .int .u8 tg]] w fun e w' => e = .returned (.bool true) ∧ Below w.heap.size w w' := by
  obtain ⟨w0, hw0⟩ : ∃ w0, w0 = w.alloc (.cells #[vb, .string sc, .int .u32 t.ver, vi, vo, .int .u32 t.lock, .int .i64 i, .int .i64 cn, .int .i64 ht, .bool raw, .bool own, .int .u8 br, .int .u8 tg] 55) := ⟨_, rfl⟩
  have z0 : w0.heap.size = w.heap.size + 1 := by rw [hw0]; simp
  have hb0 : Below w.heap.size w w0 := by rw [hw0]; exact (Below.refl _ _).alloc (Nat.le_refl _) _
  have hq : w0.heap[w.heap.size]? = some (.cells #[vb, .string sc, .int .u32 t.ver, vi, vo, .int .u32 t.lock, .int .i64 i, .int .i64 cn, .int .i64 ht, .bool raw, .bool own, .int .u8 br, .int .u8 tg] 55 (0, 0)) := by rw [hw0]; exact heap_alloc_new w _
  have CP := Lib.hid (fun W (hW : Below w.heap.size w W) => spending_any t i own br tg vb (.string sc) (.int .i64 cn) (.int .i64 ht) (.bool raw) vi vo W ((htx.keep (Kept.of_below hW (Nat.le_refl _))).wide (Nat.le_refl _) hW.size) hc hi hbr htg)
  have HW0 := Lib.hid hw0
  have B0 := Lib.hid hb0
  have HQ := Lib.hid hq
  have cell := fun (W : World) (hW : Below w0.heap.size w0 W) => (hW.block w.heap.size (by omega)).trans hq
  have a0 : w0.cell? ⟨w.heap.size, 0, none⟩ = some vb := by rw [Lib.cell_of_heap hq]; rfl
  have a1 : w0.cell? ⟨w.heap.size, 1, none⟩ = some (.string sc) := by rw [Lib.cell_of_heap hq]; rfl
  have a2 : w0.cell? ⟨w.heap.size, 2, none⟩ = some (.int .u32 t.ver) := by rw [Lib.cell_of_heap hq]; rfl
  have a3 : w0.cell? ⟨w.heap.size, 3, none⟩ = some vi := by rw [Lib.cell_of_heap hq]; rfl
  have a4 : w0.cell? ⟨w.heap.size, 4, none⟩ = some vo := by rw [Lib.cell_of_heap hq]; rfl
  have a5 : w0.cell? ⟨w.heap.size, 5, none⟩ = some (.int .u32 t.lock) := by rw [Lib.cell_of_heap hq]; rfl
  have a6 : w0.cell? ⟨w.heap.size, 6, none⟩ = some (.int .i64 i) := by rw [Lib.cell_of_heap hq]; rfl
  have a7 : w0.cell? ⟨w.heap.size, 7, none⟩ = some (.int .i64 cn) := by rw [Lib.cell_of_heap hq]; rfl
  have a8 : w0.cell? ⟨w.heap.size, 8, none⟩ = some (.int .i64 ht) := by rw [Lib.cell_of_heap hq]; rfl
  have a9 : w0.cell? ⟨w.heap.size, 9, none⟩ = some (.bool raw) := by rw [Lib.cell_of_heap hq]; rfl
  have a10 : w0.cell? ⟨w.heap.size, 10, none⟩ = some (.bool own) := by rw [Lib.cell_of_heap hq]; rfl
  have a11 : w0.cell? ⟨w.heap.size, 11, none⟩ = some (.int .u8 br) := by rw [Lib.cell_of_heap hq]; rfl
  have a12 : w0.cell? ⟨w.heap.size, 12, none⟩ = some (.int .u8 tg) := by rw [Lib.cell_of_heap hq]; rfl
  have HA := Lib.hid (fun (W : World) (hW : Below w0.heap.size w0 W) (o : Nat) => hW.cell (p := ⟨w.heap.size, o, none⟩) (show w.heap.size < w0.heap.size by omega))
  have AL := Lib.hid (And.intro a0 (And.intro a1 (And.intro a2 (And.intro a3 (And.intro a4 (And.intro a5 (And.intro a6 (And.intro a7 (And.intro a8 (And.intro a9 (And.intro a10 (And.intro a11 a12))))))))))))
  clear htx hc hw0 hb0 hq cell
  go_enter Try.func6, Try.ntmps6
  go_upto_region 1 with (fail)
  rw [show World.alloc w _ = w0 from HW0.out.symm]
  go_wp2_with fail
  refine (CP.out w0 B0.out).mono ?_
  rintro e w2 ⟨u, Ai, Ao, ci, co, k, rfl, huo, hut, hkb, hb2⟩
  have z2 := hb2.size
  obtain ⟨w3, hw3⟩ : ∃ w3, w3 = w2.alloc (.cells #[.int .u32 u.ver, .slice Ai u.ins.length ci, .slice Ao u.outs.length co, .int .u32 u.lock] 53) := ⟨_, rfl⟩
  have z3 : w3.heap.size = w2.heap.size + 1 := by rw [hw3]; simp
  have hb3 : Below w2.heap.size w2 w3 := by rw [hw3]; exact (Below.refl _ _).alloc (Nat.le_refl _) _
  have BX := Lib.hid (show Boxed w3 w2.heap.size (.int .u32 u.ver) (.slice Ai u.ins.length ci) (.slice Ao u.outs.length co) (.int .u32 u.lock) from by rw [hw3]; exact Boxed.new _ _ _ _ _ _)
  have TX := Lib.hid (show TxAt w3 0 w3.heap.size (.slice Ai u.ins.length ci) (.slice Ao u.outs.length co) u from (hut.keep (Kept.of_below hb3 (Nat.le_refl _))).wide (Nat.le_refl _) (by omega))
  have L3 := Lib.hid (below_next hb2 hb2.size hb3)
  have HO := Lib.hid huo
  have HW3 := Lib.hid hw3
  clear hb2 hb3 hw3 hut huo a0 a1 a2 a3 a4 a5 a6 a7 a8 a9 a10 a11 a12
  have hlt : w2.heap.size < w3.heap.size := by omega
  have G := fun W (hW : Below w3.heap.size w3 W) => (TX.out.keep (Kept.of_below hW (Nat.le_refl _))).wide (Nat.le_refl _) hW.size
  obtain ⟨n, hn⟩ : ∃ n, u.ins.length = n := ⟨_, rfl⟩
  obtain ⟨no, hno⟩ : ∃ n, u.outs.length = n := ⟨_, rfl⟩
  obtain ⟨w4, hw4⟩ : ∃ w4, w4 = w3.alloc (.cells #[.int .i64 k, .int .i64 i] 3) := ⟨_, rfl⟩
  have z4 : w4.heap.size = w3.heap.size + 1 := by rw [hw4]; simp
  have hb4 : Below w3.heap.size w3 w4 := by rw [hw4]; exact (Below.refl _ _).alloc (Nat.le_refl _) _
  have CO := Lib.hid (fun (p c h : Int) W (hW : Below w4.heap.size w4 W) => ripe_any u p c h _ _ W (G W (below_next hb4 hb4.size hW)) HO.out)
  have CD := Lib.hid (fun (p c h : Int) W (hW : Below w4.heap.size w4 W) => rripe_any u p c h _ _ W (G W (below_next hb4 hb4.size hW)) HO.out)
  have BB := Lib.hid (fun W (hW : Below w4.heap.size w4 W) => BX.out.below hlt (below_next hb4 hb4.size hW))
  have R0 := Lib.hid (fun W (hW : Below w4.heap.size w4 W) => (show Row2 w4 w3.heap.size k i from by rw [hw4]; exact Row2.new _ _ _ _).below (by omega) hW)
  have A7 := Lib.hid (fun W (hW : Below w4.heap.size w4 W) => (HA.out W (below_next L3.out L3.out.size (below_next hb4 hb4.size hW)) 7).trans AL.out.2.2.2.2.2.2.2.1)
  have A8 := Lib.hid (fun W (hW : Below w4.heap.size w4 W) => (HA.out W (below_next L3.out L3.out.size (below_next hb4 hb4.size hW)) 8).trans AL.out.2.2.2.2.2.2.2.2.1)
  have KK := Lib.hid (fun W (hW : Below w4.heap.size w4 W) => below_next B0.out (by omega) (below_next L3.out L3.out.size (below_next hb4 hb4.size hW)))
  have a6 : w3.cell? ⟨w.heap.size, 6, none⟩ = some (.int .i64 i) := (HA.out w3 L3.out 6).trans AL.out.2.2.2.2.2.2.1
  rw [hn, hno] at CO CD BB HW3 ⊢
  have HW4 := Lib.hid hw4
  obtain ⟨ga, hga, ga0, ga1⟩ : ∃ q : Int, (max 0 cn).tmod 300 = q ∧ 0 ≤ q ∧ q < 300 := ⟨_, rfl, by rw [Int.tmod_eq_emod_of_nonneg (by omega)]; omega, by rw [Int.tmod_eq_emod_of_nonneg (by omega)]; omega⟩
  obtain ⟨gb, hgb, gb0, gb1⟩ : ∃ q : Int, (max 0 ht).tmod 600 = q ∧ 0 ≤ q ∧ q < 600 := ⟨_, rfl, by rw [Int.tmod_eq_emod_of_nonneg (by omega)]; omega, by rw [Int.tmod_eq_emod_of_nonneg (by omega)]; omega⟩
  have hm1 : ∀ w, (Builtin.max_ #[3, 3] 3 #[.int .i64 0, .int .i64 cn]).run Try.prog w = .ok (.int .i64 (max 0 cn)) w := fun w => run_max0 #[3, 3] 3 cn w
  have hm2 : ∀ w, (Builtin.max_ #[3, 3] 3 #[.int .i64 0, .int .i64 ht]).run Try.prog w = .ok (.int .i64 (max 0 ht)) w := fun w => run_max0 #[3, 3] 3 ht w
  generalize max 0 cn = mc at hga hm1
  generalize max 0 ht = mh at hgb hm2
  have v1 : IntKind.i64.wrap ga = ga := by rw [IntWalk.i64_in _ (by omega)]
  have v2 : IntKind.i64.wrap gb = gb := by rw [IntWalk.i64_in _ (by omega)]
  clear G hn hno hw4 hb4 CP HA AL HQ BX TX
  go_upto_region 2 with (fail)
  rw [show World.alloc w2 _ = w3 from HW3.out.symm]
  go_wp2_with fail
  rw [show World.alloc w3 _ = w4 from HW4.out.symm]
  go_loopg [22] 2 (fun gg s22 wr => ∃ q : Nat, q ≤ 2 ∧ 2 - q ≤ gg ∧ s22 = .int .i64 q ∧ Hid (Below w4.heap.size w4 wr))
  case atStart => exact ⟨0, by omega, by omega, rfl, Lib.hid (Below.refl _ _)⟩
  case round =>
    clear a6
    obtain ⟨q1, hq1, hg1, rfl, S1⟩ := hrel
    obtain ⟨w5, hw5⟩ : ∃ w5, w5 = wr := ⟨_, rfl⟩
    subst hw5
    by_cases hl1 : q1 < 2
    · have k1 : (q1 : Int) < 2 := by omega
      have k2 : decide ((q1 : Int) < 2) = true := decide_eq_true k1
      have cR := (R0.out _ S1.out).at hl1
      rw [z3] at cR
      generalize two k i q1 = p1 at cR
      have a7 := A7.out _ S1.out
      obtain ⟨w6, hw6⟩ : ∃ w6, w6 = w5.alloc (.cells #[.int .i64 cn, .int .i64 ga] 3) := ⟨_, rfl⟩
      have hb6 : Below w5.heap.size w5 w6 := by rw [hw6]; exact (Below.refl _ _).alloc (Nat.le_refl _) _
      have z6 : w6.heap.size = w5.heap.size + 1 := by rw [hw6]; simp
      have T6 := Lib.hid (fun W (hW : Below w6.heap.size w6 W) => below_next S1.out S1.out.size (below_next hb6 hb6.size hW))
      have R6 := Lib.hid (fun W (hW : Below w6.heap.size w6 W) => (show Row2 w6 w5.heap.size cn ga from by rw [hw6]; exact Row2.new _ _ _ _).below (by omega) hW)
      have HW6 := Lib.hid hw6
      clear hw6 hb6
      go_wp2_with fail
      rw [show World.alloc w5 _ = w6 from HW6.out.symm]
      go_loopg [34] 2 (fun gg s34 wr => ∃ q : Nat, q ≤ 2 ∧ 2 - q ≤ gg ∧ s34 = .int .i64 q ∧ Hid (Below w6.heap.size w6 wr))
      case atStart => exact ⟨0, by omega, by omega, rfl, Lib.hid (Below.refl _ _)⟩
      case round =>
        clear a7 cR
        obtain ⟨q2, hq2, hg2, rfl, S2⟩ := hrel
        obtain ⟨w7, hw7⟩ : ∃ w7, w7 = wr := ⟨_, rfl⟩
        subst hw7
        by_cases hl2 : q2 < 2
        · have k3 : (q2 : Int) < 2 := by omega
          have k4 : decide ((q2 : Int) < 2) = true := decide_eq_true k3
          have cR := (R6.out _ S2.out).at hl2
          generalize two cn ga q2 = p2 at cR
          have a8 := A8.out _ (T6.out _ S2.out)
          obtain ⟨w8, hw8⟩ : ∃ w8, w8 = w7.alloc (.cells #[.int .i64 ht, .int .i64 gb] 3) := ⟨_, rfl⟩
          have hb8 : Below w7.heap.size w7 w8 := by rw [hw8]; exact (Below.refl _ _).alloc (Nat.le_refl _) _
          have z8 : w8.heap.size = w7.heap.size + 1 := by rw [hw8]; simp
          have T8 := Lib.hid (fun W (hW : Below w8.heap.size w8 W) => below_next S2.out S2.out.size (below_next hb8 hb8.size hW))
          have R8 := Lib.hid (fun W (hW : Below w8.heap.size w8 W) => (show Row2 w8 w7.heap.size ht gb from by rw [hw8]; exact Row2.new _ _ _ _).below (by omega) hW)
          have HW8 := Lib.hid hw8
          clear hw8 hb8
          go_wp2_with fail
          rw [show World.alloc w7 _ = w8 from HW8.out.symm]
          go_loopg [46] 2 (fun gg s46 wr => ∃ q : Nat, q ≤ 2 ∧ 2 - q ≤ gg ∧ s46 = .int .i64 q ∧ Hid (Below w8.heap.size w8 wr))
          case atStart => exact ⟨0, by omega, by omega, rfl, Lib.hid (Below.refl _ _)⟩
          case round =>
            clear a8 cR
            obtain ⟨q3, hq3, hg3, rfl, S3⟩ := hrel
            obtain ⟨w9, hw9⟩ : ∃ w9, w9 = wr := ⟨_, rfl⟩
            subst hw9
            by_cases hl3 : q3 < 2
            · have k5 : (q3 : Int) < 2 := by omega
              have k6 : decide ((q3 : Int) < 2) = true := decide_eq_true k5
              have cR := (R8.out _ S3.out).at hl3
              generalize two ht gb q3 = p3 at cR
              have C1 := Lib.hid (CO.out p1 p2 p3 w9 (T6.out _ (T8.out _ S3.out)))
              have C2 := Lib.hid (fun W hW => CD.out p1 p2 p3 W (T6.out _ (T8.out _ hW)))
              have C3 := Lib.hid (fun W hW => CO.out p1 p2 (p3 + 1) W (T6.out _ (T8.out _ hW)))
              have RL := Lib.hid (fun (hr : rpB u p1 p2 p3 = true) (hh : p3 < 1000000) => rp_later hr hh)
              have RB := Lib.hid (fun (hr : rpB u p1 p2 p3 = true) => rp_low hr)
              obtain ⟨rp, hrp⟩ : ∃ q, rpB u p1 p2 p3 = q := ⟨_, rfl⟩
              obtain ⟨rq, hrq⟩ : ∃ q, rpB u p1 p2 (p3 + 1) = q := ⟨_, rfl⟩
              rw [hrp] at C1 C2 RL RB
              rw [hrq] at C3 RL
              clear hrp hrq
              obtain ⟨b0, b1, b2, b3⟩ := BB.out w9 (T6.out _ (T8.out _ S3.out))
              go_wp2_with fail
              refine C1.out.mono ?_
              rintro e w10 ⟨rfl, hb10⟩
              have S10 := Lib.hid (below_next S3.out S3.out.size hb10)
              clear hb10 b0 b1 b2 b3 cR C1
              obtain ⟨b0, b1, b2, b3⟩ := BB.out w10 (T6.out _ (T8.out _ S10.out))
              go_wp2_with fail
              refine (C2.out w10 S10.out).mono ?_
              rintro e w11 ⟨rfl, hb11⟩
              have S11 := Lib.hid (below_next S10.out S10.out.size hb11)
              clear hb11 b0 b1 b2 b3 C2
              obtain ⟨b0, b1, b2, b3⟩ := BB.out w11 (T6.out _ (T8.out _ S11.out))
              cases rp with
              | false =>
                go_wp2_with fail
                go_roundg (2 - (q3 + 1))
                case measure => omega
                case rel => exact ⟨q3 + 1, by omega, by omega, by go_num, S11⟩
              | true =>
                have lo := RB.out rfl
                by_cases hh : p3 < 1000000
                · obtain rfl := RL.out rfl hh
                  have v5 : IntKind.i64.wrap (p3 + 1) = p3 + 1 := by rw [IntWalk.i64_in _ (by omega)]
                  go_wp2_with fail
                  refine (C3.out w11 S11.out).mono ?_
                  rintro e w12 ⟨rfl, hb12⟩
                  have S12 := Lib.hid (below_next S11.out S11.out.size hb12)
                  clear hb12 b0 b1 b2 b3 C3
                  go_wp2_with fail
                  go_roundg (2 - (q3 + 1))
                  case measure => omega
                  case rel => exact ⟨q3 + 1, by omega, by omega, by go_num, S12⟩
                · go_wp2_with fail
                  go_roundg (2 - (q3 + 1))
                  case measure => omega
                  case rel => exact ⟨q3 + 1, by omega, by omega, by go_num, S11⟩
            · have k5 : ¬ (q3 : Int) < 2 := by omega
              have S9 := Lib.hid (T8.out _ S3.out)
              go_wp2_with fail
              go_roundg (2 - (q2 + 1))
              case measure => omega
              case rel => exact ⟨q2 + 1, by omega, by omega, by go_num, S9⟩
        · have k3 : ¬ (q2 : Int) < 2 := by omega
          have S7 := Lib.hid (T6.out _ S2.out)
          go_wp2_with fail
          go_roundg (2 - (q1 + 1))
          case measure => omega
          case rel => exact ⟨q1 + 1, by omega, by omega, by go_num, S7⟩
    · have k1 : ¬ (q1 : Int) < 2 := by omega
      go_wp2_with fail
      refine (wakes_any w5).mono ?_
      rintro e w8 ⟨rfl, hb8⟩
      have K8 := Lib.hid (KK.out w8 (below_next S1.out S1.out.size hb8))
      clear hb8
      go_wp2_with fail
      go_ret
      exact ⟨rfl, K8.out⟩

end Go.Proofs.Ytdldhfhhhjenkaa
