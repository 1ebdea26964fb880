/-
  The statement IdentSame, walked.
-/
import Derived.Test.YtfobdefncbaooaaDoorSmem
import Derived.BigRegion
import Derived.Deep.RegionHeld3
import Derived.Deep.CutBlock
namespace Go.Proofs.YtfobdefncbaooaaDoor
open Go.RowKit

theorem take_at {P : Program} {ops : Array Oper} {Q : Exit → Act → World → Prop} {md : Region.Mode} {S : World → Prop} {i d : Nat} {oi : Oper} {v : Value} {fuel : Nat} {listed : Array Bool} {a : Act} {w : World}
    (hi : ops[i]? = some oi) (hd : oi.dst = some d) (hs : Region.noSelect ops = true) (hf : Region.free md ops listed i = true) (hr : (Region.ready md ops listed).contains i = true)
    (hQ : ∀ c a w, Q (.panic c) (a.put (some d) v) w → Q (.panic c) a w) (hy : YieldsIf P ops S oi v a) (hS : S w)
    (h : wpAnyH P md ops Q S fuel (listed.setIfInBounds i true) (a.put (some d) v) w) : wpAnyH P md ops Q S (fuel + 1) listed a w :=
  wpAnyH_take (oi := oi) (v := v) hi hs hf hr (by rw [hd]; exact hQ) hy hS (by rw [hd]; exact h)

theorem grown_drew {w w1 : World} {o : Obj} {base : Nat} {v : Value} (hgrow : (w.alloc o).drew.grownBy w1 v.ownBlock) (hv : ∀ g, v.ownBlock = some g → base ≤ g) (hb : base ≤ w.heap.size) : Below base w w1 :=
  (((Below.refl base w).alloc hb o).drew).grown hgrow (by simp; omega) hv

set_option maxHeartbeats 4000000 in
set_option maxRecDepth 100000 in
theorem same_law (t : TxD) (ls : List ByteArray) (vi vo vl : Value) (w : World) (ht : TxAt w 0 w.heap.size vi vo t) (hc : t.Came) (hl : Strs w 0 w.heap.size vl ls) (hlm : ls.length ≤ maxLen) (hTa : Sh.Tabs w) :
    Calls Tryd.prog 5 #[.agg #[.int .u32 t.ver, vi, vo, .int .u32 t.lock], vl] w fun e w' => e = .returned (.bool true) ∧ Below w.heap.size w w' := by
  obtain ⟨AL, mL, rfl⟩ := hl.form
  obtain ⟨W0, hW0⟩ : ∃ W0, W0 = w.alloc (.cells #[.int .u32 t.ver, vi, vo, .int .u32 t.lock] 26) := ⟨_, rfl⟩
  have z0' : W0.heap.size = w.heap.size + 1 := by rw [hW0]; simp
  have hb0 : Below w.heap.size w W0 := by rw [hW0]; exact (Below.refl _ _).alloc (Nat.le_refl _) _
  have hbx : Boxed W0 w.heap.size (.int .u32 t.ver) vi vo (.int .u32 t.lock) := by rw [hW0]; exact Boxed.new _ _ _ _ _ _
  have HC8 := Lib.hid (fit_any t vi vo W0 w.heap.size (ht.keep (Kept.of_below hb0 (Nat.le_refl _))) (by omega) hc)
  have HB0 := Lib.hid hb0
  have HW0 := Lib.hid hW0
  have TA := Lib.hid hTa
  have HL := Lib.hid hl
  have hlm' : ls.length ≤ 9223372036854775807 := by unfold maxLen at hlm; omega
  clear ht hc hb0 hW0 hTa hl hlm
  obtain ⟨s0, s1, s2, s3⟩ := hbx
  obtain ⟨i9, hi9, y0, y1, y2⟩ := info_parts info9
  go_enter Tryd.func5, Tryd.ntmps5
  go_upto_region 1 with (fail)
  rw [show World.alloc w _ = W0 from HW0.out.symm]
  go_wp2_with fail
  refine HC8.out.mono ?_
  rintro e w1 ⟨u, Ai, Ao, ci, co, rfl, huo, hl1, hl2, hci, hco, hri, hro, hb1⟩
  clear s0 s1 s2 s3
  have z1 := hb1.size
  obtain ⟨w2, hw2⟩ : ∃ w2, w2 = w1.alloc (.cells #[.int .u32 u.ver, .slice Ai u.ins.length ci, .slice Ao u.outs.length co, .int .u32 u.lock] 26) := ⟨_, rfl⟩
  have z2 : w2.heap.size = w1.heap.size + 1 := by rw [hw2]; simp
  have hb2 : Below w1.heap.size w1 w2 := by rw [hw2]; exact (Below.refl _ _).alloc (Nat.le_refl _) _
  have S2 := Lib.hid (show TxS w1.heap.size u (.slice Ai u.ins.length ci) (.slice Ao u.outs.length co) w2 from by rw [hw2]; exact TxS.new ⟨(hri.ins hci).wide (Nat.zero_le _) (Nat.le_refl _), (hro.outs hco).wide (Nat.zero_le _) (Nat.le_refl _)⟩)
  have K2 := Lib.hid (below_next (below_next HB0.out (by omega) hb1) (by omega) hb2)
  have HB2 := Lib.hid hb2
  have HRI := Lib.hid hri
  have HRO := Lib.hid hro
  have HO := Lib.hid huo
  have HW2 := Lib.hid hw2
  clear hri hro hb1 hb2 hw2 huo HC8 HB0 HW0
  have TX := Lib.hid (TA.out.below K2.out)
  have C9 := Lib.hid (ident_any u _ _ w2 S2.out.tx HO.out TX.out)
  obtain ⟨cd, hcd⟩ : ∃ cd, checkD u = cd := ⟨_, rfl⟩
  obtain ⟨ia, hia⟩ : ∃ x, idS u = x := ⟨_, rfl⟩
  rw [hcd, hia] at C9
  have EQ := Lib.hid (show checkD u = cd ∧ idS u = ia from ⟨hcd, hia⟩)
  clear hcd hia
  go_upto_region 2 with (fail)
  rw [show World.alloc w1 _ = w2 from HW2.out.symm]
  have l2' := S2.out.lt
  obtain ⟨b0, b1, b2, b3⟩ := S2.out.box
  go_wp2_with fail
  refine C9.out.mono ?_
  rintro e w3 ⟨rfl, hb3⟩
  have z3 := hb3.size
  have L3 := Lib.hid hb3
  have S3 := Lib.hid (S2.out.below hb3)
  have K3 := Lib.hid (below_next K2.out K2.out.size hb3)
  clear hb3 b0 b1 b2 b3 C9 HW2
  by_cases hz : cd = 0
  · subst hz
    have hcd := EQ.out.1
    have np := check_parts hcd
    obtain ⟨b0, b1, b2, b3⟩ := S3.out.box
    go_wp2_with fail
    refine (copy_own u _ _ w3 0 w3.heap.size S3.out.tx (Nat.le_refl _) HO.out).mono ?_
    rintro e w4 ⟨A, c, B, d, rfl, hco4, hsz4⟩
    obtain ⟨g, go, rfl, rfl, hcs⟩ := copy_parts hco4 hsz4 np.1 np.2.2.1
    have CS := Lib.hid hcs
    have z4 := hcs.bel.size
    have g1 := hcs.lg
    have g2 := hcs.lgo
    have g3 := hcs.lt
    obtain ⟨w5, hw5⟩ : ∃ w5, w5 = w4.alloc (.cells #[.int .u32 u.ver, .slice (some ⟨g, 0, none⟩) u.ins.length c, .slice (some ⟨go, 0, none⟩) u.outs.length d, .int .u32 u.lock] 26) := ⟨_, rfl⟩
    have z5 : w5.heap.size = w4.heap.size + 1 := by rw [hw5]; simp
    have hb5 : Below w4.heap.size w4 w5 := by rw [hw5]; exact (Below.refl _ _).alloc (Nat.le_refl _) _
    have V5 := Lib.hid (show Boxed w5 w4.heap.size (.int .u32 u.ver) (.slice (some ⟨g, 0, none⟩) u.ins.length c) (.slice (some ⟨go, 0, none⟩) u.outs.length d) (.int .u32 u.lock) from by rw [hw5]; exact Boxed.new _ _ _ _ _ _)
    have HB5 := Lib.hid hb5
    have HW5 := Lib.hid hw5
    have U5 := Lib.hid ((S3.out.below CS.out.bel).box.below (show w1.heap.size < w4.heap.size by have := S3.out.lt; omega) hb5)
    obtain ⟨ss, hss⟩ : ∃ ss, ss = (ls.take 4).map cut80 := ⟨_, rfl⟩
    have hs4 : ss.length ≤ 4 := by rw [hss]; simp; omega
    have hs80 : ∀ s ∈ ss, s.size ≤ 80 := by
      intro s hs
      rw [hss] at hs
      obtain ⟨y, _, rfl⟩ := List.mem_map.1 hs
      exact cut80_size y
    have HS0 := Lib.hid (SmS.start (ss := ss) hcs hb5 K3.out)
    have HSS := Lib.hid hss
    clear hcs hco4 hsz4 hb5 hw5 b0 b1 b2 b3 hss
    go_upto_region 6 with (fail)
    rw [show World.alloc w4 _ = w5 from HW5.out.symm]
    obtain ⟨a0, a1, a2, a3⟩ := V5.out
    have hul : u.ins.length ≤ 8 := hl1
    go_wp2_with fail
    go_loopg [9, 10, 39] u.ins.length (fun gg _ _ s wr => ∃ k : Nat, k ≤ u.ins.length ∧ u.ins.length - k ≤ gg ∧ s = .int .i64 k ∧ Hid (SmS w w5 u g k wr.heap.size ss wr))
    case atStart => exact ⟨0, Nat.zero_le _, by omega, rfl, HS0⟩
    case round =>
      clear HS0 a0 a1 a2 a3
      obtain ⟨k, hk, hgg, rfl, HS⟩ := hrel
      have zr := HS.out.lt
      obtain ⟨a0, a1, a2, a3⟩ := V5.out.block (HS.out.oth w4.heap.size (by omega) (by omega))
      by_cases hlt : k < u.ins.length
      · have k1 : (k : Int) < (u.ins.length : Int) := by omega
        have k2 : decide (k < u.ins.length) = true := decide_eq_true hlt
        obtain ⟨v0, c3⟩ := HS.out.new k hlt
        have f3 := HS.out.free (k * 4 + 3)
        obtain ⟨wo, hwo⟩ : ∃ wo, wo = wr := ⟨_, rfl⟩
        subst hwo
        have N := Lib.hid (HS.out.set hlt (.slice none 0 0))
        obtain ⟨wn, hwn⟩ : ∃ wn, wn = wo.setCell ⟨g, k * 4 + 3, none⟩ (.slice none 0 0) := ⟨_, rfl⟩
        have zn : wn.heap.size = wo.heap.size := by rw [hwn]; exact World.size_setCell _ _ _
        rw [← hwn] at N
        have HWN := Lib.hid hwn
        have ON := Lib.hid (own_nil wn wo.heap.size)
        rw [zn] at ON
        clear hwn
        go_upto_region 10 with (fail)
        rw [show World.setCell wo _ _ = wn from HWN.out.symm]
        go_wp2_with fail
        go_loopg [10] ls.length (fun gg s wr => ∃ (j : Nat) (vW : Value), j ≤ ls.length ∧ j ≤ 4 ∧ ls.length - j ≤ gg ∧ s = .int .i64 j ∧ Hid (SmS w w5 u g k wo.heap.size ss wr) ∧ Hid (wr.cell? ⟨g, k * 4 + 3, none⟩ = some vW) ∧ Hid (StrOwn wr wo.heap.size wr.heap.size vW ((ls.take j).map cut80)))
        case atStart => exact ⟨0, .slice none 0 0, Nat.zero_le _, by omega, by omega, rfl, N.out.1, N.out.2, by rw [zn]; exact ON.out⟩
        case round =>
          clear a0 a1 a2 a3 c3 f3 N ON HWN
          obtain ⟨j, vW, hj, hj4, hgj, rfl, HR, HC, HOW⟩ := hrel
          have lr := HR.out.lt
          obtain ⟨a0, a1, a2, a3⟩ := V5.out.block (HR.out.oth w4.heap.size (by omega) (by omega))
          have c3 := HC.out
          have f3 := HR.out.free (k * 4 + 3)
          by_cases hjj : j < ls.length ∧ j < 4
          · obtain ⟨hjl, hjq⟩ := hjj
            have j1 : (j : Int) < (ls.length : Int) := by omega
            have j2 : (j : Int) < 4 := by omega
            have j3 : decide (j < ls.length) = true := decide_eq_true hjl
            have j4 : decide ((j : Int) < 4) = true := decide_eq_true j2
            obtain ⟨x, hxj⟩ : ∃ x, ls[j]? = some x := ⟨_, List.getElem?_eq_getElem hjl⟩
            obtain ⟨eb, eo, rfl, _, he2, cx⟩ := (HL.out.keep (Kept.of_below HR.out.bel (Nat.le_refl _))).at hjl
            rw [show ls.getD j ByteArray.empty = x from by simp [List.getD_eq_getElem?_getD, hxj]] at cx
            have SN := Lib.hid (take_snoc_map cut80 hxj)
            obtain ⟨n, hn⟩ : ∃ n, min x.size 80 = n := ⟨_, rfl⟩
            have hm : ∀ w, (Builtin.min_ #[3, 3] 3 #[.int .i64 (x.size : Int), .int .i64 80]).run Tryd.prog w = .ok (.int .i64 (n : Nat)) w := by rw [← hn]; exact fun w => run_min_nat 80 #[3, 3] 3 x.size w
            obtain ⟨r, hr⟩ : ∃ r, x.extract 0 n = r := ⟨_, rfl⟩
            have hcr : cut80 x = r := by unfold cut80; rw [hn, hr]
            rw [hcr] at SN
            have hn2 : n ≤ x.size := by omega
            have hn3 : (n : Int) ≤ (x.size : Int) := by omega
            obtain ⟨cs, hcse⟩ : ∃ cs, (ls.take j).map cut80 = cs := ⟨_, rfl⟩
            have hcl : cs.length = j := by rw [← hcse]; simp; omega
            rw [hcse] at SN HOW
            obtain ⟨AW, cW, rfl⟩ := own_form HOW.out.1
            have hew : eb < wr.heap.size := by omega
            have hgw : g < wr.heap.size := by omega
            have hvw : w4.heap.size < wr.heap.size := by omega
            rw [hcl] at c3
            have HOJ := Lib.hid (show wr.ownsRow wo.heap.size 9 1 (.slice AW j cW) j (cs.map Value.string) from by have h := HOW.out.1; rw [hcl] at h; exact h)
            have HCL := Lib.hid hcl
            clear hxj hcse hn hcr hcl HC
            have SK : (fun w' : World => w'.cell? ⟨w4.heap.size, 1, none⟩ = some (.slice (some ⟨g, 0, none⟩) u.ins.length c) ∧ w'.cell? ⟨eb, eo + j, none⟩ = some (.string x)) wr.drew := ⟨a1, cx⟩
            have SKA : (fun w' : World => w'.cell? ⟨w4.heap.size, 1, none⟩ = some (.slice (some ⟨g, 0, none⟩) u.ins.length c) ∧ w'.cell? ⟨eb, eo + j, none⟩ = some (.string x)) (wr.alloc (.cells #[.string r] 9)).drew := ⟨(World.cell?_alloc_lt wr _ ⟨w4.heap.size, 1, none⟩ hvw).trans a1, (World.cell?_alloc_lt wr _ ⟨eb, eo + j, none⟩ hew).trans cx⟩
            have HOA := Lib.hid (show (wr.alloc (.cells #[.string r] 9)).drew.ownsRow wo.heap.size 9 1 (.slice AW j cW) j (cs.map Value.string) from HOJ.out.alloc _)
            have NEWS := Lib.hid (show ∀ i u, [Value.string r][i]? = some u → (wr.alloc (.cells #[.string r] 9)).drew.cell? ((⟨wr.heap.size, 0, none⟩ : Addr).add i) = some u from news1 wr _ rfl _ _)
            have ONE := Lib.hid (show ∀ u ∈ [Value.string r], u.oneCell' = true from by intro u hu; simp at hu; subst hu; rfl)
            have HB1 := Lib.hid (show j + 1 ≤ maxLen from by unfold maxLen; omega)
            have HB2 := Lib.hid (show (j + 1) * 16 ≤ 140737488355328 from by omega)
            have HB3 := Lib.hid (show wo.heap.size ≤ (wr.alloc (.cells #[.string r] 9)).drew.heap.size from by show wo.heap.size ≤ (wr.alloc (.cells #[.string r] 9)).heap.size; simp; omega)
            have FAR := Lib.hid (fun (w1 : World) (hg : (wr.alloc (.cells #[.string r] 9)).drew.grownBy w1 (Value.slice AW j cW).ownBlock) => (show (w1.cell? ⟨w4.heap.size, 1, none⟩ = some (.slice (some ⟨g, 0, none⟩) u.ins.length c) ∧ w1.cell? ⟨eb, eo + j, none⟩ = some (.string x)) ∧ w1.cell? ⟨g, k * 4 + 3, none⟩ = some (.slice AW j cW) ∧ w1.frozen? ⟨g, k * 4 + 3, none⟩ = false from by
              have hbg := grown_drew (base := wo.heap.size) hg (own_block HOJ.out) (by omega)
              exact ⟨⟨(hbg.cell (p := ⟨w4.heap.size, 1, none⟩) (by show w4.heap.size < _; omega)).trans a1, (hbg.cell (p := ⟨eb, eo + j, none⟩) (by show eb < _; omega)).trans cx⟩, (hbg.cell (p := ⟨g, k * 4 + 3, none⟩) (by show g < _; omega)).trans c3, (hbg.frozen (p := ⟨g, k * 4 + 3, none⟩) (by show g < _; omega)).trans f3⟩))
            have APP := Lib.hid (fun (w1 : World) (v' : Value) (hg : (wr.alloc (.cells #[.string r] 9)).drew.grownBy w1 (Value.slice AW j cW).ownBlock) (ho : w1.ownsRow wo.heap.size 9 1 v' (j + 1) (cs.map Value.string ++ [.string r])) => (show SmS w w5 u g k wo.heap.size ss (w1.setCell ⟨g, k * 4 + 3, none⟩ v') ∧ (w1.setCell ⟨g, k * 4 + 3, none⟩ v').cell? ⟨g, k * 4 + 3, none⟩ = some v' ∧ StrOwn (w1.setCell ⟨g, k * 4 + 3, none⟩ v') wo.heap.size (w1.setCell ⟨g, k * 4 + 3, none⟩ v').heap.size v' (cs ++ [r]) from by
              have hbg := grown_drew (base := wo.heap.size) hg (own_block HOJ.out) (by omega)
              obtain ⟨n1, n2⟩ := (HR.out.grown hbg).set hlt v'
              exact ⟨n1, n2, own_set (own_push (by rw [HCL.out]; exact ho)) (by omega)⟩))
            have STK := Lib.hid (fun (w1 : World) (v' : Value) (h : w1.cell? ⟨w4.heap.size, 1, none⟩ = some (.slice (some ⟨g, 0, none⟩) u.ins.length c) ∧ w1.cell? ⟨eb, eo + j, none⟩ = some (.string x)) => (show (w1.setCell ⟨g, k * 4 + 3, none⟩ v').cell? ⟨w4.heap.size, 1, none⟩ = some (.slice (some ⟨g, 0, none⟩) u.ins.length c) ∧ (w1.setCell ⟨g, k * 4 + 3, none⟩ v').cell? ⟨eb, eo + j, none⟩ = some (.string x) from
              ⟨(World.cell?_of_block (w := w1) (a := ⟨w4.heap.size, 1, none⟩) (Below.heap_setCell _ _ _ _ (by show w4.heap.size ≠ g; omega))).trans h.1, (World.cell?_of_block (w := w1) (a := ⟨eb, eo + j, none⟩) (Below.heap_setCell _ _ _ _ (by show eb ≠ g; omega))).trans h.2⟩))
            clear HOW
            go_upto_region 13 with (fail)
            refine wp_region_held_drew (S := fun w' => w'.cell? ⟨w4.heap.size, 1, none⟩ = some (.slice (some ⟨g, 0, none⟩) u.ins.length c) ∧ w'.cell? ⟨eb, eo + j, none⟩ = some (.string x)) (by kernel_rfl) ?_ (fun hHeld => ?_)
            · exact ⟨a1, cx⟩
            refine take_at (i := 0) (d := 57) (v := ?vq1) rfl rfl (by kernel_rfl) (by kernel_rfl) (by kernel_rfl) (fun _ _ _ h => h) (Or.inl ⟨by rfl, ?yq1⟩) hHeld ?rq1
            case yq1 => (intro w hSw; (try dsimp only at hSw); obtain ⟨hSw1, hSw2⟩ := hSw; go_simp; try with_reducible rfl)
            simp only [Act.put, List.setIfInBounds_toArray, List.set_cons_zero, List.set_cons_succ]
            refine take_at (i := 1) (d := 58) (v := ?vq2) rfl rfl (by kernel_rfl) (by kernel_rfl) (by kernel_rfl) (fun _ _ _ h => h) (Or.inl ⟨by rfl, ?yq2⟩) hHeld ?rq2
            case yq2 => (intro w hSw; (try dsimp only at hSw); obtain ⟨hSw1, hSw2⟩ := hSw; go_simp; try with_reducible rfl)
            simp only [Act.put, List.setIfInBounds_toArray, List.set_cons_zero, List.set_cons_succ]
            refine take_at (i := 2) (d := 59) (v := ?vq3) rfl rfl (by kernel_rfl) (by kernel_rfl) (by kernel_rfl) (fun _ _ _ h => h) (Or.inl ⟨by rfl, ?yq3⟩) hHeld ?rq3
            case yq3 => (intro w hSw; (try dsimp only at hSw); obtain ⟨hSw1, hSw2⟩ := hSw; go_simp; try with_reducible rfl)
            simp only [Act.put, List.setIfInBounds_toArray, List.set_cons_zero, List.set_cons_succ]
            refine take_at (i := 3) (d := 60) (v := ?vq4) rfl rfl (by kernel_rfl) (by kernel_rfl) (by kernel_rfl) (fun _ _ _ h => h) (Or.inl ⟨by rfl, ?yq4⟩) hHeld ?rq4
            case yq4 => (intro w hSw; (try dsimp only at hSw); obtain ⟨hSw1, hSw2⟩ := hSw; go_simp; try with_reducible rfl)
            simp only [Act.put, List.setIfInBounds_toArray, List.set_cons_zero, List.set_cons_succ]
            refine take_at (i := 4) (d := 61) (v := ?vq5) rfl rfl (by kernel_rfl) (by kernel_rfl) (by kernel_rfl) (fun _ _ _ h => h) (Or.inl ⟨by rfl, ?yq5⟩) hHeld ?rq5
            case yq5 => (intro w hSw; (try dsimp only at hSw); obtain ⟨hSw1, hSw2⟩ := hSw; go_simp; try with_reducible rfl)
            simp only [Act.put, List.setIfInBounds_toArray, List.set_cons_zero, List.set_cons_succ]
            refine take_at (i := 5) (d := 62) (v := ?vq6) rfl rfl (by kernel_rfl) (by kernel_rfl) (by kernel_rfl) (fun _ _ _ h => h) (Or.inl ⟨by rfl, ?yq6⟩) hHeld ?rq6
            case yq6 => (intro w hSw; (try dsimp only at hSw); obtain ⟨hSw1, hSw2⟩ := hSw; go_simp; try with_reducible rfl)
            simp only [Act.put, List.setIfInBounds_toArray, List.set_cons_zero, List.set_cons_succ]
            refine take_at (i := 6) (d := 63) (v := ?vq7) rfl rfl (by kernel_rfl) (by kernel_rfl) (by kernel_rfl) (fun _ _ _ h => h) (Or.inl ⟨by rfl, ?yq7⟩) hHeld ?rq7
            case yq7 => (intro w hSw; (try dsimp only at hSw); obtain ⟨hSw1, hSw2⟩ := hSw; go_simp; try with_reducible rfl)
            simp only [Act.put, List.setIfInBounds_toArray, List.set_cons_zero, List.set_cons_succ]
            refine take_at (i := 7) (d := 64) (v := ?vq8) rfl rfl (by kernel_rfl) (by kernel_rfl) (by kernel_rfl) (fun _ _ _ h => h) (Or.inl ⟨by rfl, ?yq8⟩) hHeld ?rq8
            case yq8 => (intro w hSw; (try dsimp only at hSw); obtain ⟨hSw1, hSw2⟩ := hSw; go_simp; try with_reducible rfl)
            simp only [Act.put, List.setIfInBounds_toArray, List.set_cons_zero, List.set_cons_succ]
            refine take_at (i := 9) (d := 66) (v := ?vq9) rfl rfl (by kernel_rfl) (by kernel_rfl) (by kernel_rfl) (fun _ _ _ h => h) (Or.inl ⟨by rfl, ?yq9⟩) hHeld ?rq9
            case yq9 => (intro w hSw; (try dsimp only at hSw); obtain ⟨hSw1, hSw2⟩ := hSw; go_simp; try with_reducible rfl)
            simp only [Act.put, List.setIfInBounds_toArray, List.set_cons_zero, List.set_cons_succ]
            refine take_at (i := 10) (d := 67) (v := ?vq10) rfl rfl (by kernel_rfl) (by kernel_rfl) (by kernel_rfl) (fun _ _ _ h => h) (Or.inl ⟨by rfl, ?yq10⟩) hHeld ?rq10
            case yq10 => (intro w hSw; (try dsimp only at hSw); obtain ⟨hSw1, hSw2⟩ := hSw; go_simp; try with_reducible rfl)
            simp only [Act.put, List.setIfInBounds_toArray, List.set_cons_zero, List.set_cons_succ]
            refine take_at (i := 11) (d := 68) (v := ?vq11) rfl rfl (by kernel_rfl) (by kernel_rfl) (by kernel_rfl) (fun _ _ _ h => h) (Or.inl ⟨by rfl, ?yq11⟩) hHeld ?rq11
            case yq11 => (intro w hSw; (try dsimp only at hSw); obtain ⟨hSw1, hSw2⟩ := hSw; go_simp; try with_reducible rfl)
            simp only [Act.put, List.setIfInBounds_toArray, List.set_cons_zero, List.set_cons_succ]
            refine take_at (i := 12) (d := 69) (v := ?vq12) rfl rfl (by kernel_rfl) (by kernel_rfl) (by kernel_rfl) (fun _ _ _ h => h) (Or.inl ⟨by rfl, ?yq12⟩) hHeld ?rq12
            case yq12 => (intro w hSw; (try dsimp only at hSw); obtain ⟨hSw1, hSw2⟩ := hSw; go_simp; try with_reducible rfl)
            simp only [Act.put, List.setIfInBounds_toArray, List.set_cons_zero, List.set_cons_succ]
            refine take_at (i := 13) (d := 70) (v := ?vq13) rfl rfl (by kernel_rfl) (by kernel_rfl) (by kernel_rfl) (fun _ _ _ h => h) (Or.inl ⟨by rfl, ?yq13⟩) hHeld ?rq13
            case yq13 => (intro w hSw; (try dsimp only at hSw); obtain ⟨hSw1, hSw2⟩ := hSw; go_simp; try with_reducible rfl)
            simp only [Act.put, List.setIfInBounds_toArray, List.set_cons_zero, List.set_cons_succ]
            refine take_at (i := 14) (d := 71) (v := ?vq14) rfl rfl (by kernel_rfl) (by kernel_rfl) (by kernel_rfl) (fun _ _ _ h => h) (Or.inl ⟨by rfl, ?yq14⟩) hHeld ?rq14
            case yq14 => (intro w hSw; (try dsimp only at hSw); obtain ⟨hSw1, hSw2⟩ := hSw; go_simp; try with_reducible rfl)
            simp only [Act.put, List.setIfInBounds_toArray, List.set_cons_zero, List.set_cons_succ]
            refine take_at (i := 15) (d := 72) (v := ?vq15) rfl rfl (by kernel_rfl) (by kernel_rfl) (by kernel_rfl) (fun _ _ _ h => h) (Or.inl ⟨by rfl, ?yq15⟩) hHeld ?rq15
            case yq15 => (intro w hSw; (try dsimp only at hSw); obtain ⟨hSw1, hSw2⟩ := hSw; go_simp; try with_reducible rfl)
            simp only [Act.put, List.setIfInBounds_toArray, List.set_cons_zero, List.set_cons_succ]
            refine take_at (i := 16) (d := 73) (v := ?vq16) rfl rfl (by kernel_rfl) (by kernel_rfl) (by kernel_rfl) (fun _ _ _ h => h) (Or.inl ⟨by rfl, ?yq16⟩) hHeld ?rq16
            case yq16 => (intro w hSw; (try dsimp only at hSw); obtain ⟨hSw1, hSw2⟩ := hSw; go_simp; try with_reducible rfl)
            simp only [Act.put, List.setIfInBounds_toArray, List.set_cons_zero, List.set_cons_succ]
            refine take_at (i := 17) (d := 74) (v := ?vq17) rfl rfl (by kernel_rfl) (by kernel_rfl) (by kernel_rfl) (fun _ _ _ h => h) (Or.inl ⟨by rfl, ?yq17⟩) hHeld ?rq17
            case yq17 => (intro w hSw; (try dsimp only at hSw); obtain ⟨hSw1, hSw2⟩ := hSw; go_simp; try with_reducible rfl)
            simp only [Act.put, List.setIfInBounds_toArray, List.set_cons_zero, List.set_cons_succ]
            refine take_at (i := 18) (d := 75) (v := ?vq18) rfl rfl (by kernel_rfl) (by kernel_rfl) (by kernel_rfl) (fun _ _ _ h => h) (Or.inl ⟨by rfl, ?yq18⟩) hHeld ?rq18
            case yq18 => (intro w hSw; (try dsimp only at hSw); obtain ⟨hSw1, hSw2⟩ := hSw; go_simp; try with_reducible rfl)
            simp only [Act.put, List.setIfInBounds_toArray, List.set_cons_zero, List.set_cons_succ]
            refine take_at (i := 19) (d := 76) (v := ?vq19) rfl rfl (by kernel_rfl) (by kernel_rfl) (by kernel_rfl) (fun _ _ _ h => h) (Or.inl ⟨by rfl, ?yq19⟩) hHeld ?rq19
            case yq19 => (intro w hSw; (try dsimp only at hSw); obtain ⟨hSw1, hSw2⟩ := hSw; go_simp; try with_reducible rfl)
            simp only [Act.put, List.setIfInBounds_toArray, List.set_cons_zero, List.set_cons_succ]
            refine wpAnyH_ready (rs := [8, 20]) (by kernel_rfl) (by simp) ?_
            refine AllReadyH.cons (o := { dst := some 65, op := Op.load 45 (Operand.tmp 64), type := 45, pos := "law.go:69", after := #[{ on := 7, ground := Ground.data }], guard := none }) rfl (fun K hK => ?_) ?_
            · go_simp
              refine hK.out _ _ ?_ (fun hHeld => ?_)
              · first | exact SK | exact hHeld | exact SKA | go_keep
              clear hK K
              try simp only [Act.put, List.setIfInBounds_toArray, List.set_cons_zero, List.set_cons_succ]
              refine wpAnyH_ready (rs := [20]) (by kernel_rfl) (by simp) ?_
              refine AllReadyH.cons (o := { dst := some 77, op := Op.buildSlice 45 1 #[(0, Operand.tmp 76)], type := 45, pos := "law.go:69", after := #[{ on := 19, ground := Ground.data }], guard := none }) rfl (fun K hK => ?_) ?_
              · go_simp
                refine hK.out _ _ ?_ (fun hHeld => ?_)
                · first | exact SK | exact hHeld | exact SKA | go_keep
                clear hK K
                try simp only [Act.put, List.setIfInBounds_toArray, List.set_cons_zero, List.set_cons_succ]
                refine wpAnyH_ready (rs := [21]) (by kernel_rfl) (by simp) ?_
                refine AllReadyH.cons (o := { dst := some 78, op := Op.call { callee := Callee.builtin Builtin.append, args := #[Operand.tmp 65, Operand.tmp 77], argTypes := #[45, 45] }, type := 45, pos := "law.go:69", after := #[{ on := 8, ground := Ground.data }, { on := 20, ground := Ground.data }], guard := none }) rfl (fun K hK => ?_) ?_
                · refine step_append_lies (wr.alloc (.cells #[.string r] 9)).drew rfl (.tmp 65) (.tmp 77) 45 rfl wo.heap.size 9 i9 _ 1 16 Tryd.underlying45 hi9 y0 y1 y2 rfl (by decide) (.slice AW j cW) j (cs.map Value.string) (by rfl) HOA.out ⟨wr.heap.size, 0, none⟩ 1 1 [.string r] (by rfl) rfl NEWS.out ONE.out Nat.one_pos HB1.out HB2.out HB3.out _ rfl ?_
                  intro gn cap2 w10 hown1 hgrow hat hlt2
                  obtain ⟨r1, r2, r3⟩ := FAR.out _ hgrow
                  have APP1 := Lib.hid (APP.out _ _ hgrow hown1)
                  clear hown1 hgrow hat hlt2
                  refine hK.out _ _ ?_ (fun hHeld => ?_)
                  · exact r1
                  clear hK K
                  try simp only [Act.put, List.setIfInBounds_toArray, List.set_cons_zero, List.set_cons_succ]
                  refine take_at (i := 22) (d := 79) (v := ?vq20) rfl rfl (by kernel_rfl) (by kernel_rfl) (by kernel_rfl) (fun _ _ _ h => h) (Or.inl ⟨by rfl, ?yq20⟩) hHeld ?rq20
                  case yq20 => (intro w hSw; (try dsimp only at hSw); obtain ⟨hSw1, hSw2⟩ := hSw; go_simp; try with_reducible rfl)
                  simp only [Act.put, List.setIfInBounds_toArray, List.set_cons_zero, List.set_cons_succ]
                  refine take_at (i := 23) (d := 80) (v := ?vq21) rfl rfl (by kernel_rfl) (by kernel_rfl) (by kernel_rfl) (fun _ _ _ h => h) (Or.inl ⟨by rfl, ?yq21⟩) hHeld ?rq21
                  case yq21 => (intro w hSw; (try dsimp only at hSw); obtain ⟨hSw1, hSw2⟩ := hSw; go_simp; try with_reducible rfl)
                  simp only [Act.put, List.setIfInBounds_toArray, List.set_cons_zero, List.set_cons_succ]
                  refine wpAnyH_ready (rs := [24]) (by kernel_rfl) (by simp) ?_
                  refine AllReadyH.cons (o := { dst := none, op := Op.store 45 (Operand.tmp 80) (Operand.tmp 78), type := 0, pos := "law.go:69", after := #[{ on := 23, ground := Ground.data }, { on := 21, ground := Ground.data }, { on := 21, ground := Ground.chain }, { on := 0, ground := Ground.phase }, { on := 1, ground := Ground.phase }, { on := 2, ground := Ground.phase }, { on := 3, ground := Ground.phase }, { on := 4, ground := Ground.phase }, { on := 5, ground := Ground.phase }, { on := 6, ground := Ground.phase }, { on := 7, ground := Ground.phase }, { on := 8, ground := Ground.phase }, { on := 9, ground := Ground.phase }, { on := 10, ground := Ground.phase }, { on := 11, ground := Ground.phase }, { on := 12, ground := Ground.phase }, { on := 13, ground := Ground.phase }, { on := 14, ground := Ground.phase }, { on := 15, ground := Ground.phase }, { on := 16, ground := Ground.phase }, { on := 17, ground := Ground.phase }, { on := 18, ground := Ground.phase }, { on := 19, ground := Ground.phase }, { on := 20, ground := Ground.phase }, { on := 21, ground := Ground.phase }], guard := none }) rfl (fun K hK => ?_) ?_
                  · go_simp
                    refine hK.out _ _ ?_ (fun hHeld => ?_)
                    · exact STK.out _ _ r1
                    clear hK K
                    try simp only [Act.put, List.setIfInBounds_toArray, List.set_cons_zero, List.set_cons_succ]
                    refine wpAnyH_done (by kernel_rfl) ?_ _
                    go_wp2_with fail
                    go_roundg (ls.length - (j + 1))
                    case measure => omega
                    case rel => exact ⟨j + 1, _, by omega, by omega, by omega, by go_num, APP1.out.1, APP1.out.2.1, by rw [SN.out]; exact APP1.out.2.2⟩
                  exact AllReadyH.nil
                exact AllReadyH.nil
              exact AllReadyH.nil
            refine AllReadyH.cons (o := { dst := some 77, op := Op.buildSlice 45 1 #[(0, Operand.tmp 76)], type := 45, pos := "law.go:69", after := #[{ on := 19, ground := Ground.data }], guard := none }) rfl (fun K hK => ?_) ?_
            · go_simp
              refine hK.out _ _ ?_ (fun hHeld => ?_)
              · first | exact SK | exact hHeld | exact SKA | go_keep
              clear hK K
              try simp only [Act.put, List.setIfInBounds_toArray, List.set_cons_zero, List.set_cons_succ]
              refine wpAnyH_ready (rs := [8]) (by kernel_rfl) (by simp) ?_
              refine AllReadyH.cons (o := { dst := some 65, op := Op.load 45 (Operand.tmp 64), type := 45, pos := "law.go:69", after := #[{ on := 7, ground := Ground.data }], guard := none }) rfl (fun K hK => ?_) ?_
              · go_simp
                refine hK.out _ _ ?_ (fun hHeld => ?_)
                · first | exact SK | exact hHeld | exact SKA | go_keep
                clear hK K
                try simp only [Act.put, List.setIfInBounds_toArray, List.set_cons_zero, List.set_cons_succ]
                refine wpAnyH_ready (rs := [21]) (by kernel_rfl) (by simp) ?_
                refine AllReadyH.cons (o := { dst := some 78, op := Op.call { callee := Callee.builtin Builtin.append, args := #[Operand.tmp 65, Operand.tmp 77], argTypes := #[45, 45] }, type := 45, pos := "law.go:69", after := #[{ on := 8, ground := Ground.data }, { on := 20, ground := Ground.data }], guard := none }) rfl (fun K hK => ?_) ?_
                · refine step_append_lies (wr.alloc (.cells #[.string r] 9)).drew rfl (.tmp 65) (.tmp 77) 45 rfl wo.heap.size 9 i9 _ 1 16 Tryd.underlying45 hi9 y0 y1 y2 rfl (by decide) (.slice AW j cW) j (cs.map Value.string) (by rfl) HOA.out ⟨wr.heap.size, 0, none⟩ 1 1 [.string r] (by rfl) rfl NEWS.out ONE.out Nat.one_pos HB1.out HB2.out HB3.out _ rfl ?_
                  intro gn cap2 w10 hown1 hgrow hat hlt2
                  obtain ⟨r1, r2, r3⟩ := FAR.out _ hgrow
                  have APP1 := Lib.hid (APP.out _ _ hgrow hown1)
                  clear hown1 hgrow hat hlt2
                  refine hK.out _ _ ?_ (fun hHeld => ?_)
                  · exact r1
                  clear hK K
                  try simp only [Act.put, List.setIfInBounds_toArray, List.set_cons_zero, List.set_cons_succ]
                  refine take_at (i := 22) (d := 79) (v := ?vq22) rfl rfl (by kernel_rfl) (by kernel_rfl) (by kernel_rfl) (fun _ _ _ h => h) (Or.inl ⟨by rfl, ?yq22⟩) hHeld ?rq22
                  case yq22 => (intro w hSw; (try dsimp only at hSw); obtain ⟨hSw1, hSw2⟩ := hSw; go_simp; try with_reducible rfl)
                  simp only [Act.put, List.setIfInBounds_toArray, List.set_cons_zero, List.set_cons_succ]
                  refine take_at (i := 23) (d := 80) (v := ?vq23) rfl rfl (by kernel_rfl) (by kernel_rfl) (by kernel_rfl) (fun _ _ _ h => h) (Or.inl ⟨by rfl, ?yq23⟩) hHeld ?rq23
                  case yq23 => (intro w hSw; (try dsimp only at hSw); obtain ⟨hSw1, hSw2⟩ := hSw; go_simp; try with_reducible rfl)
                  simp only [Act.put, List.setIfInBounds_toArray, List.set_cons_zero, List.set_cons_succ]
                  refine wpAnyH_ready (rs := [24]) (by kernel_rfl) (by simp) ?_
                  refine AllReadyH.cons (o := { dst := none, op := Op.store 45 (Operand.tmp 80) (Operand.tmp 78), type := 0, pos := "law.go:69", after := #[{ on := 23, ground := Ground.data }, { on := 21, ground := Ground.data }, { on := 21, ground := Ground.chain }, { on := 0, ground := Ground.phase }, { on := 1, ground := Ground.phase }, { on := 2, ground := Ground.phase }, { on := 3, ground := Ground.phase }, { on := 4, ground := Ground.phase }, { on := 5, ground := Ground.phase }, { on := 6, ground := Ground.phase }, { on := 7, ground := Ground.phase }, { on := 8, ground := Ground.phase }, { on := 9, ground := Ground.phase }, { on := 10, ground := Ground.phase }, { on := 11, ground := Ground.phase }, { on := 12, ground := Ground.phase }, { on := 13, ground := Ground.phase }, { on := 14, ground := Ground.phase }, { on := 15, ground := Ground.phase }, { on := 16, ground := Ground.phase }, { on := 17, ground := Ground.phase }, { on := 18, ground := Ground.phase }, { on := 19, ground := Ground.phase }, { on := 20, ground := Ground.phase }, { on := 21, ground := Ground.phase }], guard := none }) rfl (fun K hK => ?_) ?_
                  · go_simp
                    refine hK.out _ _ ?_ (fun hHeld => ?_)
                    · exact STK.out _ _ r1
                    clear hK K
                    try simp only [Act.put, List.setIfInBounds_toArray, List.set_cons_zero, List.set_cons_succ]
                    refine wpAnyH_done (by kernel_rfl) ?_ _
                    go_wp2_with fail
                    go_roundg (ls.length - (j + 1))
                    case measure => omega
                    case rel => exact ⟨j + 1, _, by omega, by omega, by omega, by go_num, APP1.out.1, APP1.out.2.1, by rw [SN.out]; exact APP1.out.2.2⟩
                  exact AllReadyH.nil
                exact AllReadyH.nil
              exact AllReadyH.nil
            exact AllReadyH.nil
          · have htk : ls.take j = ls.take 4 := by
              rcases (show ls.length ≤ j ∨ j = 4 from by omega) with h | h
              · rw [List.take_of_length_le h, List.take_of_length_le (by omega)]
              · rw [h]
            rw [htk, ← HSS.out] at HOW
            have NX := Lib.hid (HR.out.next HC.out HOW.out.strs)
            clear htk
            by_cases hjl : j < ls.length
            · have j1 : (j : Int) < (ls.length : Int) := by omega
              have j2 : ¬ (j : Int) < 4 := by omega
              have j3 : decide (j < ls.length) = true := decide_eq_true hjl
              go_wp2_with fail
              go_roundg (u.ins.length - (k + 1))
              case measure => omega
              case rel => exact ⟨k + 1, by omega, by omega, by go_num, NX.out⟩
            · have j1 : ¬ (j : Int) < (ls.length : Int) := by omega
              go_wp2_with fail
              go_roundg (u.ins.length - (k + 1))
              case measure => omega
              case rel => exact ⟨k + 1, by omega, by omega, by go_num, NX.out⟩
      · have k1 : ¬ (k : Int) < (u.ins.length : Int) := by omega
        obtain rfl : k = u.ins.length := by omega
        have sa := same_all (ss := ss) hcd hs4 hs80
        have hvk := with_ok (ss := ss) HO.out hs4 hs80
        have hbk0 := bare_ok HO.out
        have T7 := Lib.hid (HS.out.fin CS.out HB5.out)
        obtain ⟨gu, rfl, gu1, gu2, hbk⟩ := bk_new HRI.out np.1
        have B15 : Below w1.heap.size w1 w5 := below_next (below_next (below_next HB2.out (by omega) L3.out) (by omega) CS.out.bel) (by omega) HB5.out
        have zu := S3.out.lt
        have hur : wr.heap[gu]? = w1.heap[gu]? := (HS.out.oth gu (by omega) (by omega)).trans (B15.block gu gu2)
        have BU := Lib.hid (hbk.block hur)
        have U7 := Lib.hid (U5.out.block (HS.out.oth w1.heap.size (by omega) (by omega)))
        have V7 := Lib.hid (V5.out.block (HS.out.oth w4.heap.size (by omega) (by omega)))
        have OU := Lib.hid (show ∃ gq, Ao = some ⟨gq, 0, none⟩ ∧ gq ≠ gu ∧ gq < wr.heap.size ∧ ∀ j x, u.outs[j]? = some x → OutAt wr gq (j * 2) x from by
          rcases HRO.out with h0 | ⟨gq, cur, e, h1, h2, hq, ha⟩
          · have := np.2.2.1; rw [h0] at this; simp at this
          · have hk : wr.heap[gq]? = w1.heap[gq]? := (HS.out.oth gq (by omega) (by omega)).trans (B15.block gq h2)
            refine ⟨gq, e, ?_, by omega, fun j x hx => ⟨(World.cell?_of_block (w := w1) hk).trans (ha j x hx).1, (World.cell?_of_block (w := w1) hk).trans (ha j x hx).2⟩⟩
            intro e
            obtain ⟨cg, hcg⟩ := hbk.blk
            rw [e, hcg] at hq
            injection hq with hq
            injection hq with _ hq _
            cases hq)
        have KR := Lib.hid HS.out.bel
        obtain ⟨es, hes⟩ : ∃ es, encS (bareT u) (hasW (bareT u)) = es := ⟨_, rfl⟩
        rw [hes] at sa
        obtain ⟨sa1, sa2, sa3, sa4, sa5, sa6, sa7⟩ := sa
        rw [EQ.out.2] at sa3 sa4
        rw [sa5] at sa6 sa7
        have C9 := Lib.hid (show Calls Tryd.prog 9 #[.agg #[.int .u32 u.ver, .slice (some ⟨g, 0, none⟩) u.ins.length c, .slice (some ⟨go, 0, none⟩) u.outs.length d, .int .u32 u.lock]] wr fun x w' => x = .returned (.tuple #[.string ia, .int .i64 0]) ∧ Below wr.heap.size wr w' from by
          have h := ident_any (withW u ss) _ _ wr (T7.out.wide (Nat.zero_le _) (Nat.le_refl _)) hvk (TA.out.below KR.out)
          rw [sa3, sa1] at h
          exact h)
        clear hbk hur B15 HRI HRO HS HB2 HB5 V5 U5
        obtain ⟨w6, hw6⟩ : ∃ w6, w6 = wr := ⟨_, rfl⟩
        subst hw6
        clear a0 a1 a2 a3
        obtain ⟨a0, a1, a2, a3⟩ := V7.out
        go_wp2_with fail
        refine C9.out.mono ?_
        rintro e w8 ⟨rfl, hb8⟩
        have z8 := hb8.size
        have K8 := Lib.hid (below_next KR.out KR.out.size hb8)
        have V8 := Lib.hid (V7.out.below (by omega) hb8)
        have U8 := Lib.hid (U7.out.below (by omega) hb8)
        have T8 := Lib.hid ((T7.out.keep (Kept.of_below hb8 (Nat.le_refl _))).wide (Nat.le_refl _) hb8.size)
        have BW := Lib.hid (show BkW w w8 gu 0 u.ins w8 from ⟨BU.out.below hb8, fun _ _ => rfl, rfl, K8.out, by omega⟩)
        have OU8 := Lib.hid (show ∃ gq, Ao = some ⟨gq, 0, none⟩ ∧ gq ≠ gu ∧ gq < w8.heap.size ∧ ∀ j x, u.outs[j]? = some x → OutAt w8 gq (j * 2) x from by
          obtain ⟨gq, e, h1, h2, ha⟩ := OU.out
          exact ⟨gq, e, h1, by omega, fun j x hx => ⟨(hb8.cell (p := ⟨gq, j * 2, none⟩) h2).trans (ha j x hx).1, (hb8.cell (p := ⟨gq, j * 2 + 1, none⟩) h2).trans (ha j x hx).2⟩⟩)
        clear hb8 a0 a1 a2 a3 C9 V7 U7 T7 BU OU KR
        obtain ⟨b0, b1, b2, b3⟩ := U8.out
        go_wp2_with fail
        go_loopg [13, 90] u.ins.length (fun gg _ s wr => ∃ k : Nat, k ≤ u.ins.length ∧ u.ins.length - k ≤ gg ∧ s = .int .i64 k ∧ Hid (BkW w w8 gu k u.ins wr))
        case atStart => exact ⟨0, Nat.zero_le _, by omega, rfl, BW⟩
        case round =>
          clear BW b0 b1 b2 b3
          obtain ⟨k, hk, hgk, rfl, BW⟩ := hrel
          obtain ⟨b0, b1, b2, b3⟩ := U8.out.block (BW.out.oth w1.heap.size (by omega))
          by_cases hlt : k < u.ins.length
          · have q1 : (k : Int) < (u.ins.length : Int) := by omega
            have q2 : decide (k < u.ins.length) = true := decide_eq_true hlt
            obtain ⟨y, hy⟩ : ∃ y, u.ins[k]? = some y := ⟨_, List.getElem?_eq_getElem hlt⟩
            obtain ⟨_, _, _, ⟨v0, c3⟩, _⟩ := BW.out.row.at' k y hy
            have f3 := BW.out.row.frozen (k * 4 + 3)
            clear hy
            go_wp2_with fail
            go_roundg (u.ins.length - (k + 1))
            case measure => omega
            case rel => exact ⟨k + 1, by omega, by omega, by go_num, BW.out.step hlt⟩
          · have q1 : ¬ (k : Int) < (u.ins.length : Int) := by omega
            obtain rfl : k = u.ins.length := by omega
            obtain ⟨w9, hw9⟩ : ∃ w9, w9 = wr := ⟨_, rfl⟩
            subst hw9
            have z9 := BW.out.sz
            have U9 := Lib.hid (show TxS w1.heap.size (bareT u) (.slice (some ⟨gu, 0, none⟩) u.ins.length ci) (.slice Ao u.outs.length co) w9 from by
              refine ⟨⟨b0, b1, b2, b3⟩, ⟨BW.out.row.ins (Nat.le_refl _) hci, ?_⟩, by omega⟩
              obtain ⟨gq, e, h1, h2, ha⟩ := OU8.out
              refine ⟨Ao, co, rfl, hco, .inr ⟨gq, 0, e, Nat.zero_le _, by omega, fun j x hx => ?_⟩⟩
              rw [Nat.zero_add]
              have f : ∀ o, w9.cell? ⟨gq, o, none⟩ = w8.cell? ⟨gq, o, none⟩ := fun o => World.cell?_of_block (w := w8) (BW.out.oth gq h1)
              exact ⟨(f _).trans (ha j x hx).1, (f _).trans (ha j x hx).2⟩)
            have V9 := Lib.hid (show TxS w4.heap.size (withW u ss) (.slice (some ⟨g, 0, none⟩) u.ins.length c) (.slice (some ⟨go, 0, none⟩) u.outs.length d) w9 from
              ⟨V8.out.block (BW.out.oth w4.heap.size (by omega)), (T8.out.keep (fun b h1 _ => BW.out.oth b (by omega))).wide (Nat.zero_le _) (by omega), by omega⟩)
            have K9 := Lib.hid BW.out.bel
            have TX9 := Lib.hid (TA.out.below K9.out)
            have hel := enc_le hbk0 (hasW (bareT u))
            rw [hes] at hel
            have HBK := Lib.hid hbk0
            have HVK := Lib.hid hvk
            have C10 := Lib.hid (fun W (hW : Below w9.heap.size w9 W) => (show Calls Tryd.prog 10 #[.agg #[.int .u32 u.ver, .slice (some ⟨gu, 0, none⟩) u.ins.length ci, .slice Ao u.outs.length co, .int .u32 u.lock]] W fun x w' => x = .returned (.tuple #[.string ia, .int .i64 0]) ∧ Below W.heap.size W w' from by
              have h := whole_any (bareT u) _ _ W (U9.out.below hW).tx HBK.out (TX9.out.below hW)
              rw [sa4, sa2] at h
              exact h))
            have C12 := Lib.hid (fun W (hW : Below w9.heap.size w9 W) => (show Calls Tryd.prog 12 #[.agg #[.int .u32 u.ver, .slice (some ⟨gu, 0, none⟩) u.ins.length ci, .slice Ao u.outs.length co, .int .u32 u.lock]] W fun x w' => x = .returned (.tuple #[.int .i64 (es.size : Int), .int .i64 0]) ∧ Below W.heap.size W w' from by
              have h := size_any (bareT u) _ _ W (U9.out.below hW).tx HBK.out
              rw [sa5, sa2] at h
              exact h))
            have C11 := Lib.hid (fun W (hW : Below w9.heap.size w9 W) => (show Calls Tryd.prog 11 #[.agg #[.int .u32 u.ver, .slice (some ⟨gu, 0, none⟩) u.ins.length ci, .slice Ao u.outs.length co, .int .u32 u.lock]] W fun x w' => x = .returned (.tuple #[.int .i64 (4 * (es.size : Int)), .int .i64 0]) ∧ Below W.heap.size W w' from by
              have h := weight_any (bareT u) _ _ W (U9.out.below hW).tx HBK.out
              rw [sa6, sa2] at h
              exact h))
            have C21 := Lib.hid (fun W (hW : Below w9.heap.size w9 W) => (show Calls Tryd.prog 21 #[.agg #[.int .u32 u.ver, .slice (some ⟨gu, 0, none⟩) u.ins.length ci, .slice Ao u.outs.length co, .int .u32 u.lock]] W fun x w' => x = .returned (.tuple #[.string es, .int .i64 0]) ∧ Below W.heap.size W w' from by
              have h := encode_any (bareT u) _ _ W (U9.out.below hW).tx HBK.out
              rw [hes, sa2] at h
              exact h))
            obtain ⟨mm, hmm⟩ : ∃ mm, szN (withW u ss) = mm := ⟨_, rfl⟩
            rw [hmm] at sa7
            have D12 := Lib.hid (fun W (hW : Below w9.heap.size w9 W) => (show Calls Tryd.prog 12 #[.agg #[.int .u32 u.ver, .slice (some ⟨g, 0, none⟩) u.ins.length c, .slice (some ⟨go, 0, none⟩) u.outs.length d, .int .u32 u.lock]] W fun x w' => x = .returned (.tuple #[.int .i64 mm, .int .i64 0]) ∧ Below W.heap.size W w' from by
              have h := size_any (withW u ss) _ _ W (V9.out.below hW).tx HVK.out
              rw [hmm, sa1] at h
              exact h))
            have CW := Lib.hid (fun W (hW : Below w9.heap.size w9 W) => wakes_any W (TX9.out.below hW))
            have v1 : IntKind.i64.wrap (4 * (es.size : Int)) = 4 * (es.size : Int) := by rw [IntWalk.i64_in _ (by omega)]
            have e1 : (ia.toList == ia.toList) = true := by simp
            have e2 : ((es.size : Int) == (es.size : Int)) = true := by simp
            have e3 : (4 * (es.size : Int) == 4 * (es.size : Int)) = true := by simp
            clear BW b0 b1 b2 b3 V8 U8 T8 OU8 hes hmm sa1 sa2 sa3 sa4 sa5 sa6 hbk0 hvk HBK HVK
            obtain ⟨b0, b1, b2, b3⟩ := U9.out.box
            go_wp2_with fail
            refine (C10.out w9 (Below.refl _ _)).mono ?_
            rintro e wa ⟨rfl, hba⟩
            have L10 := Lib.hid hba
            clear hba b0 b1 b2 b3 C10
            obtain ⟨b0, b1, b2, b3⟩ := (U9.out.below L10.out).box
            go_wp2_with fail
            refine (C12.out wa L10.out).mono ?_
            rintro e wb ⟨rfl, hbb⟩
            have L11 := Lib.hid (below_next L10.out L10.out.size hbb)
            clear hbb b0 b1 b2 b3 C12 L10
            obtain ⟨b0, b1, b2, b3⟩ := (U9.out.below L11.out).box
            go_wp2_with fail
            refine (C11.out wb L11.out).mono ?_
            rintro e wc ⟨rfl, hbc⟩
            have L12 := Lib.hid (below_next L11.out L11.out.size hbc)
            clear hbc b0 b1 b2 b3 C11 L11
            obtain ⟨b0, b1, b2, b3⟩ := (U9.out.below L12.out).box
            go_wp2_with fail
            refine (C21.out wc L12.out).mono ?_
            rintro e wd ⟨rfl, hbd⟩
            have L13 := Lib.hid (below_next L12.out L12.out.size hbd)
            clear hbd b0 b1 b2 b3 C21 L12
            obtain ⟨b0, b1, b2, b3⟩ := (V9.out.below L13.out).box
            go_wp2_with fail
            refine (D12.out wd L13.out).mono ?_
            rintro e we ⟨rfl, hbe⟩
            have L14 := Lib.hid (below_next L13.out L13.out.size hbe)
            clear hbe b0 b1 b2 b3 D12 L13
            go_wp2_with fail
            refine (CW.out we L14.out).mono ?_
            rintro e wf ⟨rfl, hbf⟩
            have L15 := Lib.hid (below_next L14.out L14.out.size hbf)
            clear hbf CW L14
            go_wp2_with fail
            go_ret
            exact ⟨rfl, below_next K9.out K9.out.size L15.out⟩
  · have e1 : (cd != 0) = true := by simpa using hz
    clear hz
    go_wp2_with fail
    refine (wakes_any _ ((TX.out.below L3.out))).mono ?_
    rintro e w5 ⟨rfl, hb5⟩
    go_wp2_with fail
    go_ret
    exact ⟨rfl, below_next K3.out K3.out.size hb5⟩

end Go.Proofs.YtfobdefncbaooaaDoor
