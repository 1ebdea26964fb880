/-
  The statement LockKeeps, walked.
-/
import Derived.Test.YtdldhfhhhjenkaaSpn
namespace Go.Proofs.Ytdldhfhhhjenkaa
open Go.RowKit

/-- What opens: the branch, and what is known of it. -/
theorem open_parts {s : ByteArray} {u : TxD} {k : Int} (h : opE s u k = 0) : ∃ (j : Nat) (x : InD) (b : BrD) (m : Nat), k = (j : Int) ∧ u.ins[j]? = some x ∧ snE x.wit = 0 ∧ snN x.wit = (m : Int) ∧ (gtR s)[m]? = some b ∧ fitB b (snT x.wit) = true ∧ gtE s = 0 ∧ brE b u x = 0 := by
  unfold opE at h
  split at h
  · omega
  rename_i h0
  split at h
  · omega
  rename_i x hx
  unfold opX at h
  split at h
  · omega
  rename_i b hb
  have hsb := hb
  unfold sbO at hb
  split at hb
  · rename_i hB
    cases e : (gtR s)[(snN x.wit).toNat]? with
    | none => rw [e] at hb; cases hb
    | some y =>
      rw [e] at hb
      simp only [Option.bind_some] at hb
      split at hb
      · rename_i hf
        injection hb with hb
        subst hb
        have nb := snN_bd x.wit
        refine ⟨k.toNat, x, y, (snN x.wit).toNat, by omega, hx, by unfold snE; rw [if_pos hB], by omega, e, hf, ?_, h⟩
        by_cases hg : gtE s = 0
        · exact hg
        · rw [sb_err hg] at hsb; cases hsb
      · cases hb
  · cases hb
/-- Ripe, and open: no earlier. -/
theorem ripe_parts {b : BrD} {u : TxD} {x : InD} {j : Nat} {c h : Int} (hx : u.ins[j]? = some x) (ho : brE b u x = 0) (hr : rpB u (j : Int) c h = true) : c + b.del ≤ h ∧ (0 < b.hgt → b.hgt < h) := by
  rw [rp_at hx] at hr
  unfold rpX at hr
  simp only [Bool.and_eq_true, Bool.or_eq_true, decide_eq_true_eq, Bool.not_eq_true'] at hr
  unfold brE at ho
  split at ho
  · omega
  rename_i h1
  split at ho
  · omega
  rename_i h2
  refine ⟨by omega, fun hp => ?_⟩
  have h3 : ¬ u.lock < b.hgt ∧ ¬ x.sq = 4294967295 := by
    refine ⟨fun q => h2 ⟨hp, .inl q⟩, fun q => h2 ⟨hp, .inr q⟩⟩
  rcases hr.2.2 with q | q
  · omega
  · rw [List.any_eq_false] at q
    have := q x (List.mem_of_getElem? hx)
    simp [askB] at this
    exact absurd this h3.2

set_option maxHeartbeats 4000000 in
set_option maxRecDepth 100000 in
theorem keeps_law (xs : List BrD) (sc : ByteArray) (t : TxD) (i cn ht : Int) (raw own : Bool) (br tg : Int) (vb vi vo : Value) (w : World) (hb : Brs w 0 w.heap.size vb xs) (hok : ∀ x ∈ xs, x.Ok) (hl : xs.length ≤ maxLen) (hs : sc.size ≤ maxLen)
    (htx : TxAt w 0 w.heap.size vi vo t) (hc : t.Came) (hi : -9223372036854775808 ≤ i ∧ i ≤ 9223372036854775807) (hbr : 0 ≤ br ∧ br ≤ 255) (htg : 0 ≤ tg ∧ tg ≤ 255) :
    Calls Try.prog 7 #[.agg #[vb, .string sc, .int .u32 t.ver, vi, vo, .int .u32 t.lock, .int .i64 i, .int .i64 cn, .int .i64 ht, .bool raw, .bool own, .int .u8 br, .int .u8 tg]] w fun e w' => e = .returned (.bool true) ∧ Below w.heap.size w w' := by
  obtain ⟨w0, hw0⟩ : ∃ w0, w0 = w.alloc (.cells #[vb, .string sc, .int .u32 t.ver, vi, vo, .int .u32 t.lock, .int .i64 i, .int .i64 cn, .int .i64 ht, .bool raw, .bool own, .int .u8 br, .int .u8 tg] 55) := ⟨_, rfl⟩
  have z0 : w0.heap.size = w.heap.size + 1 := by rw [hw0]; simp
  have hb0 : Below w.heap.size w w0 := by rw [hw0]; exact (Below.refl _ _).alloc (Nat.le_refl _) _
  have hq : w0.heap[w.heap.size]? = some (.cells #[vb, .string sc, .int .u32 t.ver, vi, vo, .int .u32 t.lock, .int .i64 i, .int .i64 cn, .int .i64 ht, .bool raw, .bool own, .int .u8 br, .int .u8 tg] 55 (0, 0)) := by rw [hw0]; exact heap_alloc_new w _
  have CS := Lib.hid (script_any xs sc raw vb (.int .u32 t.ver) vi vo (.int .u32 t.lock) (.int .i64 i) (.int .i64 cn) (.int .i64 ht) (.bool own) (.int .u8 br) (.int .u8 tg) w0 ((hb.keep (Kept.of_below hb0 (Nat.le_refl _))).wide (Nat.le_refl _) (by omega)) hok hl hs)
  have CP := Lib.hid (fun W (hW : Below w.heap.size w W) => spending_any t i own br tg vb (.string sc) (.int .i64 cn) (.int .i64 ht) (.bool raw) vi vo W ((htx.keep (Kept.of_below hW (Nat.le_refl _))).wide (Nat.le_refl _) hW.size) hc hi hbr htg)
  have LS := scS_len xs sc raw
  generalize scS xs sc raw = S at CS LS
  have HW0 := Lib.hid hw0
  have B0 := Lib.hid hb0
  have HQ := Lib.hid hq
  have cell := fun (W : World) (hW : Below w0.heap.size w0 W) => (hW.block w.heap.size (by omega)).trans hq
  have a0 : w0.cell? ⟨w.heap.size, 0, none⟩ = some vb := by rw [Lib.cell_of_heap hq]; rfl
  have a1 : w0.cell? ⟨w.heap.size, 1, none⟩ = some (.string sc) := by rw [Lib.cell_of_heap hq]; rfl
  have a2 : w0.cell? ⟨w.heap.size, 2, none⟩ = some (.int .u32 t.ver) := by rw [Lib.cell_of_heap hq]; rfl
  have a3 : w0.cell? ⟨w.heap.size, 3, none⟩ = some vi := by rw [Lib.cell_of_heap hq]; rfl
  have a4 : w0.cell? ⟨w.heap.size, 4, none⟩ = some vo := by rw [Lib.cell_of_heap hq]; rfl
  have a5 : w0.cell? ⟨w.heap.size, 5, none⟩ = some (.int .u32 t.lock) := by rw [Lib.cell_of_heap hq]; rfl
  have a6 : w0.cell? ⟨w.heap.size, 6, none⟩ = some (.int .i64 i) := by rw [Lib.cell_of_heap hq]; rfl
  have a7 : w0.cell? ⟨w.heap.size, 7, none⟩ = some (.int .i64 cn) := by rw [Lib.cell_of_heap hq]; rfl
  have a8 : w0.cell? ⟨w.heap.size, 8, none⟩ = some (.int .i64 ht) := by rw [Lib.cell_of_heap hq]; rfl
  have a9 : w0.cell? ⟨w.heap.size, 9, none⟩ = some (.bool raw) := by rw [Lib.cell_of_heap hq]; rfl
  have a10 : w0.cell? ⟨w.heap.size, 10, none⟩ = some (.bool own) := by rw [Lib.cell_of_heap hq]; rfl
  have a11 : w0.cell? ⟨w.heap.size, 11, none⟩ = some (.int .u8 br) := by rw [Lib.cell_of_heap hq]; rfl
  have a12 : w0.cell? ⟨w.heap.size, 12, none⟩ = some (.int .u8 tg) := by rw [Lib.cell_of_heap hq]; rfl
  have HA := Lib.hid (fun (W : World) (hW : Below w0.heap.size w0 W) (o : Nat) => hW.cell (p := ⟨w.heap.size, o, none⟩) (show w.heap.size < w0.heap.size by omega))
  have AL := Lib.hid (And.intro a0 (And.intro a1 (And.intro a2 (And.intro a3 (And.intro a4 (And.intro a5 (And.intro a6 (And.intro a7 (And.intro a8 (And.intro a9 (And.intro a10 (And.intro a11 a12))))))))))))
  clear hb hok hl hs htx hc hw0 hb0 hq cell
  go_enter Try.func7, Try.ntmps7
  go_upto_region 1 with (fail)
  rw [show World.alloc w _ = w0 from HW0.out.symm]
  go_wp2_with fail
  refine CS.out.mono ?_
  rintro e w1 ⟨rfl, hb1⟩
  have L1 := Lib.hid hb1
  clear hb1 CS a0 a1 a2 a3 a4 a5 a6 a7 a8 a9 a10 a11 a12
  obtain ⟨a0, a1, a2, a3, a4, a5, a6, a7, a8, a9, a10, a11, a12⟩ := AL.out
  rw [← HA.out w1 L1.out] at a0 a1 a2 a3 a4 a5 a6 a7 a8 a9 a10 a11 a12
  have K1 := Lib.hid (below_next B0.out (by omega) L1.out)
  go_wp2_with fail
  refine (CP.out w1 K1.out).mono ?_
  rintro e w2 ⟨u, Ai, Ao, ci, co, k, rfl, huo, hut, hkb, hb2⟩
  have z2 := hb2.size
  obtain ⟨w3, hw3⟩ : ∃ w3, w3 = w2.alloc (.cells #[.int .u32 u.ver, .slice Ai u.ins.length ci, .slice Ao u.outs.length co, .int .u32 u.lock] 53) := ⟨_, rfl⟩
  have z3 : w3.heap.size = w2.heap.size + 1 := by rw [hw3]; simp
  have hb3 : Below w2.heap.size w2 w3 := by rw [hw3]; exact (Below.refl _ _).alloc (Nat.le_refl _) _
  have BX := Lib.hid (show Boxed w3 w2.heap.size (.int .u32 u.ver) (.slice Ai u.ins.length ci) (.slice Ao u.outs.length co) (.int .u32 u.lock) from by rw [hw3]; exact Boxed.new _ _ _ _ _ _)
  have TX := Lib.hid (show TxAt w3 0 w3.heap.size (.slice Ai u.ins.length ci) (.slice Ao u.outs.length co) u from (hut.keep (Kept.of_below hb3 (Nat.le_refl _))).wide (Nat.le_refl _) (by omega))
  have L3 := Lib.hid (below_next (below_next L1.out L1.out.size hb2) (by have := L1.out.size; omega) hb3)
  have HO := Lib.hid huo
  have HW3 := Lib.hid hw3
  clear hb2 hb3 hw3 hut huo a0 a1 a2 a3 a4 a5 a6 a7 a8 a9 a10 a11 a12
  have hlt : w2.heap.size < w3.heap.size := by omega
  have G := fun W (hW : Below w3.heap.size w3 W) => (TX.out.keep (Kept.of_below hW (Nat.le_refl _))).wide (Nat.le_refl _) hW.size
  have CO := Lib.hid (fun W (hW : Below w3.heap.size w3 W) => open_any S u k _ _ W (G W hW) HO.out LS)
  have CR := Lib.hid (fun c h W (hW : Below w3.heap.size w3 W) => ripe_any u k c h _ _ W (G W hW) HO.out)
  have CG := Lib.hid (lget_any S w3 LS)
  have IA := Lib.hid (fun W (hW : Below w3.heap.size w3 W) (j : Nat) (x : InD) (hx : u.ins[j]? = some x) => (G W hW).1.at hx)
  have WO := Lib.hid (fun (j : Nat) (x : InD) (hx : u.ins[j]? = some x) => wit_ok HO.out hx)
  have OP := Lib.hid (fun h : opE S u k = 0 => open_parts h)
  obtain ⟨oe, hoe⟩ : ∃ e, opE S u k = e := ⟨_, rfl⟩
  rw [hoe] at CO OP
  clear G hoe
  go_upto_region 3 with (fail)
  rw [show World.alloc w2 _ = w3 from HW3.out.symm]
  go_wp2_with fail
  refine CG.out.mono ?_
  rintro e w4 ⟨vg, rfl, hbr4, hb4⟩
  obtain ⟨Ag, cg, rfl⟩ := hbr4.form
  have L4 := Lib.hid hb4
  have HBR := Lib.hid hbr4
  have gl := gtR_len S
  clear hb4 hbr4 CG
  obtain ⟨b0, b1, b2, b3⟩ := BX.out.below hlt L4.out
  go_wp2_with fail
  refine (CO.out w4 L4.out).mono ?_
  rintro e w5 ⟨rfl, hb5⟩
  have z4 := L4.out.size
  have z5 := hb5.size
  have L5 := Lib.hid (below_next L4.out L4.out.size hb5)
  have HBR5 := Lib.hid (HBR.out.keep (Kept.of_below hb5 (Nat.le_refl _)))
  clear hb5 b0 b1 b2 b3 HBR
  by_cases ho : oe = 0
  · have o1 : (oe != 0) = false := by simp [ho]
    obtain ⟨j, x, b, m, hkj, hx, hsn, hm, hb, hfit, hge, hbe⟩ := OP.out ho
    subst hkj
    have RP := Lib.hid (fun c h (hr : rpB u (j : Int) c h = true) => ripe_parts hx hbe hr)
    obtain ⟨wo1, wo2, _, _⟩ := WO.out j x hx
    have hjl := (List.getElem?_eq_some_iff.1 hx).1
    have hml := (List.getElem?_eq_some_iff.1 hb).1
    obtain ⟨ob1, ob2, ob3, ob4, ob5, ob6⟩ := gtR_ok S b (List.mem_of_getElem? hb)
    have HXI := Lib.hid (fun W (hW : Below w3.heap.size w3 W) => IA.out W hW j x hx)
    have HBB := Lib.hid (fun W (hW : Below w5.heap.size w5 W) => (HBR5.out.keep (Kept.of_below hW (by omega))).at hb)
    have nl := HO.out.1
    obtain ⟨n, hn⟩ : ∃ n, u.ins.length = n := ⟨_, rfl⟩
    obtain ⟨l, hl⟩ : ∃ l, (gtR S).length = l := ⟨_, rfl⟩
    rw [hn] at hjl nl BX CR
    rw [hl] at hml gl
    have k1 : (j : Int) < (n : Int) := by omega
    have k2 : ¬ (l : Int) ≤ (m : Int) := by omega
    have k3 : (m : Int) < (l : Int) := by omega
    obtain ⟨bb, off, hAi, _, hbw, c0, c1, c2, vw, c3, hst⟩ := HXI.out w5 L5.out
    subst hAi
    obtain ⟨Aw, cw, hvw⟩ := hst.form
    subst hvw
    have CSn := Lib.hid (signed_any x.wit _ w5 _ _ hst wo1 wo2)
    obtain ⟨st, hstt⟩ : ∃ q, snT x.wit = q := ⟨_, rfl⟩
    rw [hm, hsn, hstt] at CSn
    rw [hstt] at hfit
    rw [hge, hn, hl]
    have g1 : ((0 : Int) != 0) = false := by decide
    have hbw5 : bb < w5.heap.size := by omega
    clear hx hb hst hstt hm hsn hge ho hbe wo1 wo2 IA WO OP CO hn hl
    obtain ⟨b0, b1, b2, b3⟩ := BX.out.below hlt L5.out
    go_wp2_with fail
    refine CSn.out.mono ?_
    rintro e wz ⟨rfl, rfl⟩
    clear c0 c1 c2 c3
    go_upto_region 7 with (fail)
    go_cut [74] (fun v74 wx => v74 = .bool false ∧ Below w5.heap.size w5 wx)
    case first =>
      go_wp2_with fail
      refine (wakes_any w5).mono ?_
      rintro e w6 ⟨rfl, hb6⟩
      obtain ⟨bg, og, hAg, _, hbg, y0, y1, y2⟩ := HBB.out w6 hb6
      subst hAg
      have B6 := Lib.hid hb6
      clear hb6
      by_cases ht0 : b.tag = 0
      · have t1 : (b.tag != 0) = false := by simp [ht0]
        clear ht0
        go_wp2_with fail
        go_meet
        exact ⟨by rw [decide_eq_false (show ¬ l ≤ m by omega)], B6.out⟩
      · have t1 : (b.tag != 0) = true := by simp [ht0]
        have t2 : (b.tag != st) = false := by
          unfold fitB at hfit
          rw [show (b.tag == 0) = false from by simp [ht0]] at hfit
          simpa using hfit
        clear ht0
        go_wp2_with fail
        go_meet
        exact ⟨by rw [decide_eq_false (show ¬ l ≤ m by omega)], B6.out⟩
    case rest =>
    obtain ⟨rfl, hb6⟩ := hcut
    obtain ⟨w6, hw6⟩ : ∃ w6, w6 = wc := ⟨_, rfl⟩
    subst hw6
    have L6 := Lib.hid (below_next L5.out L5.out.size hb6)
    obtain ⟨bg, og, hAg, _, hbg, y0, y1, y2⟩ := HBB.out w6 hb6
    subst hAg
    have z6 := hb6.size
    have B6 := Lib.hid hb6
    clear hb6 b0 b1 b2 b3
    obtain ⟨ga, hga, ga0, ga1⟩ : ∃ q : Int, (max 0 cn).tmod 300 = q ∧ 0 ≤ q ∧ q < 300 := ⟨_, rfl, by rw [Int.tmod_eq_emod_of_nonneg (by omega)]; omega, by rw [Int.tmod_eq_emod_of_nonneg (by omega)]; omega⟩
    obtain ⟨gb, hgb, gb0, gb1⟩ : ∃ q : Int, (max 0 ht).tmod 600 = q ∧ 0 ≤ q ∧ q < 600 := ⟨_, rfl, by rw [Int.tmod_eq_emod_of_nonneg (by omega)]; omega, by rw [Int.tmod_eq_emod_of_nonneg (by omega)]; omega⟩
    have hm1 : ∀ w, (Builtin.max_ #[3, 3] 3 #[.int .i64 0, .int .i64 cn]).run Try.prog w = .ok (.int .i64 (max 0 cn)) w := fun w => run_max0 #[3, 3] 3 cn w
    have hm2 : ∀ w, (Builtin.max_ #[3, 3] 3 #[.int .i64 0, .int .i64 ht]).run Try.prog w = .ok (.int .i64 (max 0 ht)) w := fun w => run_max0 #[3, 3] 3 ht w
    generalize max 0 cn = mc at hga hm1
    generalize max 0 ht = mh at hgb hm2
    have v1 : IntKind.i64.wrap ga = ga := by rw [IntWalk.i64_in _ (by omega)]
    have v2 : IntKind.i64.wrap gb = gb := by rw [IntWalk.i64_in _ (by omega)]
    have v3 : IntKind.i64.wrap b.del = b.del := by rw [IntWalk.i64_in _ (by omega)]
    have v4 : IntKind.i64.wrap b.hgt = b.hgt := by rw [IntWalk.i64_in _ (by omega)]
    have v5 : IntKind.i64.wrap (ga + b.del) = ga + b.del := by rw [IntWalk.i64_in _ (by omega)]
    have a7 : w6.cell? ⟨w.heap.size, 7, none⟩ = some (.int .i64 cn) := (HA.out w6 (below_next L3.out L3.out.size L6.out) 7).trans AL.out.2.2.2.2.2.2.2.1
    have a8 : w6.cell? ⟨w.heap.size, 8, none⟩ = some (.int .i64 ht) := (HA.out w6 (below_next L3.out L3.out.size L6.out) 8).trans AL.out.2.2.2.2.2.2.2.2.1
    go_upto_region 9 with (fail)
    go_quiet (fail)
    clear hm1 hm2 hga hgb a7 a8
    obtain ⟨w7, hw7⟩ : ∃ w7, w7 = w6.drewN nq := ⟨_, rfl⟩
    have hb7 : Below w6.heap.size w6 w7 := by rw [hw7]; exact below_drewN (Below.refl _ _) nq
    have L7 := Lib.hid (below_next L6.out L6.out.size hb7)
    have B7 := Lib.hid (below_next B6.out B6.out.size hb7)
    rw [← hw7]
    clear hb7 y0 y1 y2
    obtain ⟨b0, b1, b2, b3⟩ := BX.out.below hlt L7.out
    obtain ⟨bg', og', hAg', _, hbg', y0, y1, y2⟩ := HBB.out w7 B7.out
    injection hAg' with hAg'
    injection hAg' with q1 q2
    subst q1 q2
    have CR7 := Lib.hid (CR.out ga gb w7 L7.out)
    have RPx := Lib.hid (fun hr : rpB u (j : Int) ga gb = true => RP.out ga gb hr)
    obtain ⟨rp, hrp⟩ : ∃ q, rpB u (j : Int) ga gb = q := ⟨_, rfl⟩
    rw [hrp] at CR7 RPx
    clear hrp hw7
    go_wp2_with fail
    refine CR7.out.mono ?_
    rintro e w8 ⟨rfl, hb8⟩
    have z7 := B7.out.size
    have B8 := Lib.hid (below_next B7.out B7.out.size hb8)
    have K8 := Lib.hid (below_next B0.out (by omega) (below_next L3.out L3.out.size (below_next L5.out L5.out.size B8.out)))
    clear hb8 b0 b1 b2 b3 y0 y1 y2
    obtain ⟨bg', og', hAg', _, hbg'', y0, y1, y2⟩ := HBB.out w8 B8.out
    injection hAg' with hAg'
    injection hAg' with q1 q2
    subst q1 q2
    cases rp with
    | false =>
      go_wp2_with fail
      go_ret
      exact ⟨rfl, K8.out⟩
    | true =>
      obtain ⟨r1, r2⟩ := RPx.out rfl
      by_cases hh : b.hgt = 0
      · have h1 : (b.hgt == 0) = true := by simp [hh]
        clear hh
        go_wp2_with fail
        go_ret
        exact ⟨rfl, K8.out⟩
      · have h1 : (b.hgt == 0) = false := by simp [hh]
        have h2 : b.hgt < gb := r2 (by omega)
        clear hh r2
        go_wp2_with fail
        go_ret
        exact ⟨rfl, K8.out⟩
  · have o1 : (oe != 0) = true := by simp [ho]
    clear ho
    go_wp2_with fail
    refine (wakes_any w5).mono ?_
    rintro e w6 ⟨rfl, hb6⟩
    have K6 := Lib.hid (below_next B0.out (by omega) (below_next L3.out L3.out.size (below_next L5.out L5.out.size hb6)))
    clear hb6
    go_wp2_with fail
    go_ret
    exact ⟨rfl, K6.out⟩

end Go.Proofs.Ytdldhfhhhjenkaa
