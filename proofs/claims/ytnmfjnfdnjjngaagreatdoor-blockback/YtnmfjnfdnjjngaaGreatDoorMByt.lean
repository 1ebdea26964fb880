/-
  The document's bytes of a transaction.
-/
import Derived.Test.YtnmfjnfdnjjngaaGreatDoorMWr
namespace Go.Proofs.YtnmfjnfdnjjngaaGreatDoor
open Go.RowKit
set_option maxRecDepth 100000

set_option maxHeartbeats 1000000 in
theorem length_any (n : Nat) (w : World) (h1 : n < 9223372036854775808) : Calls Tryz.prog 105 #[.int .i64 (n : Int)] w fun x w' => x = .returned (.string (Vi.vstr n)) ∧ Below w.heap.size w w' := by
  have v1 : IntKind.u64.wrap (n : Int) = n := by rw [IntKind.wrap_u64]; omega
  go_enter Tryz.func105, Tryz.ntmps105
  go_wp2_with fail
  refine (Vi.rvput_any (n : Int) _ (by omega) (by omega)).mono ?_
  rintro x w1 ⟨rfl, hb⟩
  go_wp2_with fail
  go_ret
  exact ⟨rfl, hb⟩

theorem cat_run {a b c : ByteArray} (h : a ++ b = c) (hz : a.size + b.size ≤ 1000000000) : ∀ W, (Op.stringOp .add a b).run Tryz.prog W = .ok (.string c) W := fun W => by
  rw [run_string_add_sum W _ _ (by omega), h]
theorem cat_to (a b : ByteArray) (hz : a.size + b.size ≤ 1000000000) : ∃ c, c = a ++ b ∧ c.size = a.size + b.size ∧ ∀ W, (Op.stringOp .add a b).run Tryz.prog W = .ok (.string c) W :=
  ⟨_, rfl, ByteArray.size_append, cat_run rfl hz⟩
theorem vstr_zero : Vi.vstr 0 = ⟨#[0]⟩ := by decide +kernel
theorem mark_is : markS true = ⟨#[0, 1]⟩ := by decide +kernel

structure BtS (w : World) (t : TxD) (vi vo : Value) (wr : World) : Prop where
  box : Boxed wr w.heap.size (.int .u32 t.ver) vi vo (.int .u32 t.lock)
  tx : TxAt wr 0 w.heap.size vi vo t
  bel : Below w.heap.size w wr
  lt : w.heap.size < wr.heap.size
theorem BtS.below {w : World} {t : TxD} {vi vo : Value} {wr wx : World} (h : BtS w t vi vo wr) (hb : Below wr.heap.size wr wx) : BtS w t vi vo wx := by
  have hl := h.lt
  exact ⟨h.box.below hl hb, h.tx.keep (Kept.of_below hb (by omega)), below_next h.bel (by omega) hb, Nat.lt_of_lt_of_le hl hb.size⟩
theorem btS_new (w : World) (t : TxD) (vi vo : Value) (ht : TxAt w 0 w.heap.size vi vo t) : BtS w t vi vo (w.alloc (.cells #[.int .u32 t.ver, vi, vo, .int .u32 t.lock] 51)) :=
  ⟨Boxed.new _ _ _ _ _ _, ht.keep (Kept.alloc (Nat.le_refl _) _), (Below.refl _ _).alloc (Nat.le_refl _) _, by simp⟩

/-- Do the first k need a marker? -/
def mkUp (bare : Bool) (xs : List InD) : Bool := !bare && xs.any fun x => decide (0 < x.wit.length)
theorem mkUp_step {bare : Bool} {xs : List InD} {k : Nat} {x : InD} (h : xs[k]? = some x) : mkUp bare (xs.take (k + 1)) = (mkUp bare (xs.take k) || (!bare && decide (0 < x.wit.length))) := by
  have e : xs.take (k + 1) = xs.take k ++ [x] := by
    rw [List.take_add_one, h]
    rfl
  unfold mkUp
  rw [e, List.any_append]
  cases bare <;> simp

set_option maxHeartbeats 4000000 in
set_option maxRecDepth 100000 in
theorem bytes_any (t : TxD) (vi vo : Value) (bare : Bool) (w : World) (ht : TxAt w 0 w.heap.size vi vo t) (hok : t.Ok) (hval : ∀ x ∈ t.outs, 0 ≤ x.val) :
    Calls Tryz.prog 79 #[.agg #[.int .u32 t.ver, vi, vo, .int .u32 t.lock], .bool bare] w fun e w' => e = .returned (.string (wireS t (!bare && hasW t))) ∧ Below w.heap.size w w' := by
  obtain ⟨A1, m1, rfl⟩ := ht.1.form
  obtain ⟨A2, m2, rfl⟩ := ht.2.form
  have HN := Lib.hid (btS_new w t _ _ ht)
  have HO := Lib.hid hok
  have HV := Lib.hid hval
  have v0 : IntKind.u64.wrap t.ver = t.ver := by have := hok.2.2.2.2; rw [IntKind.wrap_u64]; omega
  have v1 : IntKind.u64.wrap t.lock = t.lock := by have := hok.2.2.2.2; rw [IntKind.wrap_u64]; omega
  have hr := hok.2.2.2.2
  have hl1 := hok.1
  have hl2 := hok.2.1
  clear ht hok hval
  obtain ⟨w1, hw1⟩ : ∃ w1, w1 = w.alloc (.cells #[.int .u32 t.ver, .slice A1 t.ins.length m1, .slice A2 t.outs.length m2, .int .u32 t.lock] 51) := ⟨_, rfl⟩
  rw [← hw1] at HN
  have HW1 := Lib.hid hw1
  clear hw1
  go_enter Tryz.func79, Tryz.ntmps79
  go_upto_region 1 with (fail)
  rw [show World.alloc w _ = w1 from HW1.out.symm]
  clear HW1
  obtain ⟨b0, b1, b2, b3⟩ := HN.out.box
  go_wp2_with fail
  go_loopg [5, 6] t.ins.length (fun gg m i wr => ∃ k : Nat, k ≤ t.ins.length ∧ t.ins.length - k ≤ gg ∧ i = .int .i64 k ∧ m = .bool (mkUp bare (t.ins.take k)) ∧ wr = w1)
  case atStart => exact ⟨0, Nat.zero_le _, by omega, rfl, by simp [mkUp], rfl⟩
  case round =>
    obtain ⟨k, hk, hg, rfl, rfl, rfl⟩ := hrel
    by_cases hkl : k < t.ins.length
    · have k1 : (k : Int) < (t.ins.length : Int) := by omega
      have k2 : decide (k < t.ins.length) = true := decide_eq_true hkl
      obtain ⟨x, hx⟩ : ∃ x, t.ins[k]? = some x := ⟨_, List.getElem?_eq_getElem hkl⟩
      obtain ⟨b, off, rfl, _, hbh, c0, c1, c2, v, c3, hs⟩ := HN.out.tx.1.at hx
      obtain ⟨Bw, nw, rfl⟩ := hs.form
      have hzr := HN.out.lt
      have hbz : b < wr.heap.size := by omega
      have ES := Lib.hid (mkUp_step (bare := bare) hx)
      obtain ⟨q, hq⟩ : ∃ q, mkUp bare (t.ins.take k) = q := ⟨_, rfl⟩
      rw [hq] at ES ⊢
      clear hx hs hq c0 c1 c2
      cases q <;> cases bare <;> by_cases hw : 0 < x.wit.length
      all_goals
        try have w1 : (0 : Int) < (x.wit.length : Int) := by omega
        try have w2 : ¬ (0 : Int) < (x.wit.length : Int) := by omega
        go_wp2_with fail
        go_roundg (t.ins.length - (k + 1))
        case measure => omega
        case rel => exact ⟨k + 1, by omega, by omega, by go_num, by rw [ES.out]; simp [hw], rfl⟩
    · have k1 : ¬ (k : Int) < (t.ins.length : Int) := by omega
      have EM := Lib.hid (show mkUp bare (t.ins.take k) = (!bare && hasW t) from by rw [List.take_of_length_le (by omega)]; rfl)
      rw [EM.out]
      obtain ⟨m, hm⟩ : ∃ m, (!bare && hasW t) = m := ⟨_, rfl⟩
      rw [hm]
      have EMM := Lib.hid hm
      clear EM hm
      go_wp2_with fail
      refine (Vi.rput_any t.ver 4 wr (by omega) (by omega)).mono ?_
      rintro e w2 ⟨rfl, hb2⟩
      have S2 := Lib.hid (HN.out.below hb2)
      have p4 := putS_le t.ver 4
      obtain ⟨T1, hT1⟩ : ∃ T1, T1 = Vi.putS t.ver 4 := ⟨_, rfl⟩
      rw [← hT1] at p4 ⊢
      have E1 := Lib.hid hT1
      clear hT1 hb2 b0 b1 b2 b3 HN hk hg hkl
      go_upto_if 42 with (fail)
      go_cut [7] (fun o wx => o = .string (T1 ++ markS m) ∧ wx = w2)
      case first =>
        cases m
        · go_wp2_with fail
          go_meet
          exact ⟨by rw [show markS false = ByteArray.empty from rfl, ByteArray.append_empty], rfl⟩
        · have q := cat_run (a := T1) (b := ⟨#[0, 1]⟩) (c := T1 ++ markS true) (by rw [mark_is]) (by show T1.size + 2 ≤ _; omega)
          go_wp2_with fail
          go_meet
          exact ⟨rfl, rfl⟩
      case rest =>
        obtain ⟨rfl, rfl⟩ := hcut
        obtain ⟨T2, hT2⟩ : ∃ T2, T2 = T1 ++ markS m := ⟨_, rfl⟩
        have z2 : T2.size ≤ 24 := by have := markS_le m; rw [hT2, ByteArray.size_append]; omega
        rw [← hT2]
        have E2 := Lib.hid hT2
        clear hT2 p4
        obtain ⟨b0, b1, b2, b3⟩ := S2.out.box
        have hlt := S2.out.lt
        go_wp2_with fail
        refine (length_any t.ins.length wc (by omega)).mono ?_
        rintro e w3 ⟨rfl, hb3⟩
        have S3 := Lib.hid (S2.out.below hb3)
        have pv := vstr_le t.ins.length
        obtain ⟨T3, hT3, z3, q3⟩ := cat_to T2 (Vi.vstr t.ins.length) (by omega)
        have E3 := Lib.hid hT3
        have z3' : T3.size ≤ 33 := by omega
        clear hT3 hb3 b0 b1 b2 b3 hlt S2 z3 z2
        obtain ⟨b0, b1, b2, b3⟩ := S3.out.box
        have hlt := S3.out.lt
        go_wp2_with fail
        clear q3 pv
        go_loopg [7, 9] t.ins.length (fun gg o i wr => ∃ k : Nat, k ≤ t.ins.length ∧ t.ins.length - k ≤ gg ∧ i = .int .i64 k ∧ o = .string (T3 ++ wr_catL inS (t.ins.take k)) ∧ Hid (BtS w t (.slice A1 t.ins.length m1) (.slice A2 t.outs.length m2) wr))
        case atStart => exact ⟨0, Nat.zero_le _, by omega, rfl, by rw [List.take_zero, show wr_catL inS [] = ByteArray.empty from rfl, ByteArray.append_empty], S3⟩
        case round =>
          clear b0 b1 b2 b3 hlt S3
          obtain ⟨k, hk, hg, rfl, rfl, HS⟩ := hrel
          obtain ⟨b0, b1, b2, b3⟩ := HS.out.box
          by_cases hkl : k < t.ins.length
          · have k1 : (k : Int) < (t.ins.length : Int) := by omega
            have k2 : decide (k < t.ins.length) = true := decide_eq_true hkl
            obtain ⟨x, hx⟩ : ∃ x, t.ins[k]? = some x := ⟨_, List.getElem?_eq_getElem hkl⟩
            obtain ⟨b, off, rfl, _, hbh, c0, c1, c2, v, c3, hs⟩ := HS.out.tx.1.at hx
            have hxo := HO.out.2.2.1 x (List.mem_of_getElem? hx)
            have hzr := HS.out.lt
            have hbz : b < wr.heap.size := by omega
            have HX := Lib.hid hx
            have zk := ins_le HO.out k
            obtain ⟨T, hT⟩ : ∃ T, T = T3 ++ wr_catL inS (t.ins.take k) := ⟨_, rfl⟩
            have zT : T.size ≤ 45601 := by rw [hT, ByteArray.size_append]; omega
            rw [← hT]
            have ET := Lib.hid hT
            have u1 : IntKind.u64.wrap x.ix = x.ix := by have := hxo.2.1; have := hxo.2.2.1; rw [IntKind.wrap_u64]; omega
            have u2 : IntKind.u64.wrap x.sq = x.sq := by have := hxo.2.2.2.1; have := hxo.2.2.2.2.1; rw [IntKind.wrap_u64]; omega
            have q1 := hxo.1
            have q2 := putS_le x.ix 4
            have q4 := putS_le x.sq 4
            have i1 := hxo.2.1
            have i2 := hxo.2.2.1
            have i3 := hxo.2.2.2.1
            have i4 := hxo.2.2.2.2.1
            obtain ⟨Y1, hY1, zY1, r1⟩ := cat_to T x.id (by omega)
            obtain ⟨Y2, hY2, zY2, r2⟩ := cat_to Y1 (Vi.putS x.ix 4) (by omega)
            obtain ⟨Y3, hY3, zY3, r3⟩ := cat_to Y2 ⟨#[0]⟩ (by show Y2.size + 1 ≤ _; omega)
            have zY3' : Y3.size = Y2.size + 1 := zY3
            obtain ⟨Y4, hY4, zY4, r4⟩ := cat_to Y3 (Vi.putS x.sq 4) (by omega)
            have EY := Lib.hid (show T ++ inS x = Y4 from by rw [hY4, hY3, hY2, hY1]; simp only [inS, vstr_zero, ByteArray.append_assoc])
            have KC := Lib.hid (show InAt wr 0 w.heap.size b (off + k * 4) x from ⟨c0, c1, c2, v, c3, hs⟩)
            clear hx hs hT zk hxo c3 hY1 hY2 hY3 hY4 zY1 zY2 zY3 zY3' zY4
            go_wp2_with fail
            refine (Vi.rput_any x.ix 4 wr i1 (by omega)).mono ?_
            rintro e w5 ⟨rfl, hb5⟩
            have S5 := Lib.hid (HS.out.below hb5)
            have K5 := Lib.hid (KC.out.keep (Nat.zero_le _) hbh (Kept.of_below hb5 (by omega)))
            have z5 := hb5.size
            clear hb5 b0 b1 b2 b3 c0 c1 c2 KC HS
            obtain ⟨b0, b1, b2, b3⟩ := S5.out.box
            obtain ⟨c0, c1, c2, v5, c3, -⟩ := K5.out
            have hbz5 : b < w5.heap.size := by omega
            go_wp2_with fail
            refine (Vi.rput_any x.sq 4 w5 i3 (by omega)).mono ?_
            rintro e w6 ⟨rfl, hb6⟩
            have S6 := Lib.hid (S5.out.below hb6)
            have K6 := Lib.hid (K5.out.keep (Nat.zero_le _) hbh (Kept.of_below hb6 (by omega)))
            have z6 := hb6.size
            clear hb6 b0 b1 b2 b3 c0 c1 c2 c3 K5 S5
            obtain ⟨b0, b1, b2, b3⟩ := S6.out.box
            obtain ⟨c0, c1, c2, v6, c3, -⟩ := K6.out
            have hbz6 : b < w6.heap.size := by omega
            go_wp2_with fail
            go_roundg (t.ins.length - (k + 1))
            case measure => omega
            case rel => exact ⟨k + 1, by omega, by omega, by go_num, by rw [wr_catL_step inS HX.out, ← ByteArray.append_assoc, ← ET.out, EY.out], S6⟩
          · have k1 : ¬ (k : Int) < (t.ins.length : Int) := by omega
            obtain ⟨T4, hT4⟩ : ∃ T4, T4 = T3 ++ wr_catL inS (t.ins.take k) := ⟨_, rfl⟩
            have z4 : T4.size ≤ 45601 := by have := ins_le HO.out k; rw [hT4, ByteArray.size_append]; omega
            rw [← hT4]
            have E4 := Lib.hid (show T4 = T3 ++ wr_catL inS t.ins from by rw [hT4, List.take_of_length_le (by omega)])
            clear hT4 z3' hk hg hkl
            obtain ⟨wo, hwo⟩ : ∃ wo, wo = wr := ⟨_, rfl⟩
            subst hwo
            have hlt := HS.out.lt
            go_wp2_with fail
            refine (length_any t.outs.length wo (by omega)).mono ?_
            rintro e w5 ⟨rfl, hb5⟩
            have S5 := Lib.hid (HS.out.below hb5)
            have pv := vstr_le t.outs.length
            obtain ⟨T5, hT5, z5, q5⟩ := cat_to T4 (Vi.vstr t.outs.length) (by omega)
            have E5 := Lib.hid hT5
            have z5' : T5.size ≤ 45610 := by omega
            clear hT5 hb5 b0 b1 b2 b3 hlt HS z5 z4
            obtain ⟨b0, b1, b2, b3⟩ := S5.out.box
            have hlt := S5.out.lt
            go_wp2_with fail
            clear q5 pv
            go_loopg [7, 12] t.outs.length (fun gg o i wr => ∃ k : Nat, k ≤ t.outs.length ∧ t.outs.length - k ≤ gg ∧ i = .int .i64 k ∧ o = .string (T5 ++ wr_catL outS (t.outs.take k)) ∧ Hid (BtS w t (.slice A1 t.ins.length m1) (.slice A2 t.outs.length m2) wr))
            case atStart => exact ⟨0, Nat.zero_le _, by omega, rfl, by rw [List.take_zero, show wr_catL outS [] = ByteArray.empty from rfl, ByteArray.append_empty], S5⟩
            case round =>
              clear b0 b1 b2 b3 hlt S5
              obtain ⟨j, hj, hgj, rfl, rfl, HS⟩ := hrel
              obtain ⟨b0, b1, b2, b3⟩ := HS.out.box
              by_cases hjl : j < t.outs.length
              · have j1 : (j : Int) < (t.outs.length : Int) := by omega
                have j2 : decide (j < t.outs.length) = true := decide_eq_true hjl
                obtain ⟨x, hx⟩ : ∃ x, t.outs[j]? = some x := ⟨_, List.getElem?_eq_getElem hjl⟩
                obtain ⟨b, off, rfl, _, hbh, c0, c1⟩ := HS.out.tx.2.at hx
                have hxo := HO.out.2.2.2.1 x (List.mem_of_getElem? hx)
                have hxv := HV.out x (List.mem_of_getElem? hx)
                have hzr := HS.out.lt
                have hbz : b < wr.heap.size := by omega
                have HX := Lib.hid hx
                have zk := outs_le HO.out j
                obtain ⟨T, hT⟩ : ∃ T, T = T5 ++ wr_catL outS (t.outs.take j) := ⟨_, rfl⟩
                have zT : T.size ≤ 119850 := by rw [hT, ByteArray.size_append]; omega
                rw [← hT]
                have ET := Lib.hid hT
                have i2 := hxo.2.1
                have u1 : IntKind.u64.wrap x.val = x.val := by rw [IntKind.wrap_u64]; omega
                have q1 := hxo.2.2
                have q2 := putS_le x.val 8
                have q3 := vstr_le x.scr.size
                obtain ⟨Y1, hY1, zY1, r1⟩ := cat_to T (Vi.putS x.val 8) (by omega)
                obtain ⟨Y2, hY2, zY2, r2⟩ := cat_to Y1 (Vi.vstr x.scr.size) (by omega)
                obtain ⟨Y3, hY3, zY3, r3⟩ := cat_to Y2 x.scr (by omega)
                have EY := Lib.hid (show T ++ outS x = Y3 from by rw [hY3, hY2, hY1]; simp only [outS, itemS, ByteArray.append_assoc])
                have KC := Lib.hid (show wr.cell? ⟨b, off + j * 2, none⟩ = some (.int .i64 x.val) ∧ wr.cell? ⟨b, off + j * 2 + 1, none⟩ = some (.string x.scr) from ⟨c0, c1⟩)
                clear hx hT zk hxo hY1 hY2 hY3 zY1 zY2 zY3
                go_wp2_with fail
                refine (Vi.rput_any x.val 8 wr hxv (by omega)).mono ?_
                rintro e w5 ⟨rfl, hb5⟩
                have S5 := Lib.hid (HS.out.below hb5)
                have K5 := Lib.hid (show w5.cell? ⟨b, off + j * 2, none⟩ = some (.int .i64 x.val) ∧ w5.cell? ⟨b, off + j * 2 + 1, none⟩ = some (.string x.scr) from ⟨(hb5.cell (p := ⟨b, off + j * 2, none⟩) hbz).trans KC.out.1, (hb5.cell (p := ⟨b, off + j * 2 + 1, none⟩) hbz).trans KC.out.2⟩)
                have z5 := hb5.size
                clear hb5 b0 b1 b2 b3 c0 c1 KC HS
                obtain ⟨b0, b1, b2, b3⟩ := S5.out.box
                obtain ⟨c0, c1⟩ := K5.out
                have hbz5 : b < w5.heap.size := by omega
                go_wp2_with fail
                refine (length_any x.scr.size w5 (by omega)).mono ?_
                rintro e w6 ⟨rfl, hb6⟩
                have S6 := Lib.hid (S5.out.below hb6)
                have K6 := Lib.hid (show w6.cell? ⟨b, off + j * 2, none⟩ = some (.int .i64 x.val) ∧ w6.cell? ⟨b, off + j * 2 + 1, none⟩ = some (.string x.scr) from ⟨(hb6.cell (p := ⟨b, off + j * 2, none⟩) hbz5).trans K5.out.1, (hb6.cell (p := ⟨b, off + j * 2 + 1, none⟩) hbz5).trans K5.out.2⟩)
                have z6 := hb6.size
                clear hb6 b0 b1 b2 b3 c0 c1 K5 S5
                obtain ⟨b0, b1, b2, b3⟩ := S6.out.box
                obtain ⟨c0, c1⟩ := K6.out
                have hbz6 : b < w6.heap.size := by omega
                go_wp2_with fail
                go_roundg (t.outs.length - (j + 1))
                case measure => omega
                case rel => exact ⟨j + 1, by omega, by omega, by go_num, by rw [wr_catL_step outS HX.out, ← ByteArray.append_assoc, ← ET.out, EY.out], S6⟩
              · have j1 : ¬ (j : Int) < (t.outs.length : Int) := by omega
                obtain ⟨T6, hT6⟩ : ∃ T6, T6 = T5 ++ wr_catL outS (t.outs.take j) := ⟨_, rfl⟩
                have z6 : T6.size ≤ 119850 := by have := outs_le HO.out j; rw [hT6, ByteArray.size_append]; omega
                rw [← hT6]
                have E6 := Lib.hid (show T6 = T5 ++ wr_catL outS t.outs from by rw [hT6, List.take_of_length_le (by omega)])
                clear hT6 z5' hj hgj hjl
                obtain ⟨wp, hwp⟩ : ∃ wp, wp = wr := ⟨_, rfl⟩
                subst hwp
                have hlt := HS.out.lt
                go_wp2_with fail
                go_loopg [7, 14] t.ins.length (fun gg o i wr => ∃ k : Nat, k ≤ t.ins.length ∧ t.ins.length - k ≤ gg ∧ i = .int .i64 k ∧ o = .string (T6 ++ witsS m (t.ins.take k)) ∧ Hid (BtS w t (.slice A1 t.ins.length m1) (.slice A2 t.outs.length m2) wr))
                case atStart => exact ⟨0, Nat.zero_le _, by omega, rfl, by rw [List.take_zero, show witsS m [] = ByteArray.empty from by unfold witsS; split <;> rfl, ByteArray.append_empty], HS⟩
                case round =>
                  clear b0 b1 b2 b3 hlt HS
                  obtain ⟨i, hi', hgi, rfl, rfl, HS⟩ := hrel
                  obtain ⟨b0, b1, b2, b3⟩ := HS.out.box
                  have hzr := HS.out.lt
                  by_cases hil : i < t.ins.length ∧ m = true
                  · obtain ⟨hil, rfl⟩ := hil
                    have i1 : (i : Int) < (t.ins.length : Int) := by omega
                    have i2 : decide (i < t.ins.length) = true := decide_eq_true hil
                    obtain ⟨x, hx⟩ : ∃ x, t.ins[i]? = some x := ⟨_, List.getElem?_eq_getElem hil⟩
                    obtain ⟨b, off, rfl, _, hbh, c0, c1, c2, v, c3, hs⟩ := HS.out.tx.1.at hx
                    have hxo := HO.out.2.2.1 x (List.mem_of_getElem? hx)
                    have hbz : b < wr.heap.size := by omega
                    have HX := Lib.hid hx
                    have zk := wits_le HO.out i
                    obtain ⟨T, hT⟩ : ∃ T, T = T6 ++ witsS true (t.ins.take i) := ⟨_, rfl⟩
                    have zT : T.size ≤ 685610 := by rw [hT, ByteArray.size_append]; show T6.size + (wr_catL witS (t.ins.take i)).size ≤ _; omega
                    rw [← hT]
                    have ET := Lib.hid (show T = T6 ++ wr_catL witS (t.ins.take i) from hT)
                    obtain ⟨Bw, nw, rfl⟩ := hs.form
                    have hwl := hxo.2.2.2.2.2.1
                    have HXO := Lib.hid hxo
                    have q3 := vstr_le x.wit.length
                    obtain ⟨U, hU, zU, r1⟩ := cat_to T (Vi.vstr x.wit.length) (by omega)
                    have EU := Lib.hid hU
                    have zU' : U.size ≤ 685619 := by omega
                    have KC := Lib.hid (show wr.cell? ⟨b, off + i * 4 + 3, none⟩ = some (.slice Bw x.wit.length nw) ∧ Strs wr 0 w.heap.size (.slice Bw x.wit.length nw) x.wit from ⟨c3, hs⟩)
                    clear hx hs hT zk hxo c0 c1 c2 hU zU
                    obtain ⟨wq, hwq⟩ : ∃ wq, wq = wr := ⟨_, rfl⟩
                    subst hwq
                    go_wp2_with fail
                    refine (length_any x.wit.length wq (by omega)).mono ?_
                    rintro e w6 ⟨rfl, hb6⟩
                    have S6 := Lib.hid (HS.out.below hb6)
                    have K6 := Lib.hid (show w6.cell? ⟨b, off + i * 4 + 3, none⟩ = some (.slice Bw x.wit.length nw) ∧ Strs w6 0 w.heap.size (.slice Bw x.wit.length nw) x.wit from ⟨(hb6.cell (p := ⟨b, off + i * 4 + 3, none⟩) hbz).trans KC.out.1, KC.out.2.keep (Kept.of_below hb6 (by omega))⟩)
                    clear hb6 b0 b1 b2 b3 c3 KC HS hbz hzr
                    obtain ⟨b0, b1, b2, b3⟩ := S6.out.box
                    go_wp2_with fail
                    clear r1
                    go_loopg [7, 15] x.wit.length (fun gg o s wr => ∃ k : Nat, k ≤ x.wit.length ∧ x.wit.length - k ≤ gg ∧ s = .int .i64 k ∧ o = .string (U ++ wr_catL itemS (x.wit.take k)) ∧ Hid (BtS w t (.slice (some ⟨b, off, none⟩) t.ins.length m1) (.slice A2 t.outs.length m2) wr ∧ wr.cell? ⟨b, off + i * 4 + 3, none⟩ = some (.slice Bw x.wit.length nw) ∧ Strs wr 0 w.heap.size (.slice Bw x.wit.length nw) x.wit))
                    case atStart => exact ⟨0, Nat.zero_le _, by omega, rfl, by rw [List.take_zero, show wr_catL itemS [] = ByteArray.empty from rfl, ByteArray.append_empty], Lib.hid ⟨S6.out, K6.out⟩⟩
                    case round =>
                      clear b0 b1 b2 b3 S6 K6
                      obtain ⟨l, hl, hgl, rfl, rfl, HL⟩ := hrel
                      obtain ⟨b0, b1, b2, b3⟩ := HL.out.1.box
                      have c3 := HL.out.2.1
                      have hzr := HL.out.1.lt
                      have hbz : b < wr.heap.size := by omega
                      by_cases hll : l < x.wit.length
                      · have n1 : (l : Int) < (x.wit.length : Int) := by omega
                        have n2 : decide (l < x.wit.length) = true := decide_eq_true hll
                        obtain ⟨r, hr'⟩ : ∃ r, x.wit[l]? = some r := ⟨_, List.getElem?_eq_getElem hll⟩
                        obtain ⟨eb, eo, rfl, _, hebh, cs⟩ := HL.out.2.2.at hll
                        rw [show x.wit.getD l ByteArray.empty = r from by simp [List.getD_eq_getElem?_getD, hr']] at cs
                        have hro := HXO.out.2.2.2.2.2.2 r (List.mem_of_getElem? hr')
                        have HR := Lib.hid hr'
                        have zl := wit_le HXO.out l
                        obtain ⟨V, hV⟩ : ∃ V, V = U ++ wr_catL itemS (x.wit.take l) := ⟨_, rfl⟩
                        have zV : V.size ≤ 686715 := by rw [hV, ByteArray.size_append]; omega
                        rw [← hV]
                        have EV := Lib.hid hV
                        have q5 := vstr_le r.size
                        have hez : eb < wr.heap.size := by omega
                        obtain ⟨Y1, hY1, zY1, r1⟩ := cat_to V (Vi.vstr r.size) (by omega)
                        obtain ⟨Y2, hY2, zY2, r2⟩ := cat_to Y1 r (by omega)
                        have EY := Lib.hid (show V ++ itemS r = Y2 from by rw [hY2, hY1]; simp only [itemS, ByteArray.append_assoc])
                        have CS := Lib.hid cs
                        clear hr' hV zl hY1 hY2 zY1 zY2
                        go_wp2_with fail
                        refine (length_any r.size wr (by omega)).mono ?_
                        rintro e w7 ⟨rfl, hb7⟩
                        have S7 := Lib.hid (HL.out.1.below hb7)
                        have d3 : w7.cell? ⟨b, off + i * 4 + 3, none⟩ = some (.slice (some ⟨eb, eo, none⟩) x.wit.length nw) := (hb7.cell (p := ⟨b, off + i * 4 + 3, none⟩) hbz).trans c3
                        have ds : w7.cell? ⟨eb, eo + l, none⟩ = some (.string r) := (hb7.cell (p := ⟨eb, eo + l, none⟩) hez).trans CS.out
                        have K7 := Lib.hid (HL.out.2.2.keep (Kept.of_below hb7 (by omega)))
                        have z7 := hb7.size
                        clear hb7 b0 b1 b2 b3 c3 cs CS HL
                        obtain ⟨b0, b1, b2, b3⟩ := S7.out.box
                        have hbz7 : b < w7.heap.size := by omega
                        have hez7 : eb < w7.heap.size := by omega
                        go_wp2_with fail
                        go_roundg (x.wit.length - (l + 1))
                        case measure => omega
                        case rel => exact ⟨l + 1, by omega, by omega, by go_num, by rw [wr_catL_step itemS HR.out, ← ByteArray.append_assoc, ← EV.out, EY.out], Lib.hid ⟨S7.out, d3, K7.out⟩⟩
                      · have n1 : ¬ (l : Int) < (x.wit.length : Int) := by omega
                        go_wp2_with fail
                        go_roundg (t.ins.length - (i + 1))
                        case measure => omega
                        case rel =>
                          refine ⟨i + 1, by omega, by omega, by go_num, ?_, Lib.hid HL.out.1⟩
                          have e : T ++ witS x = U ++ wr_catL itemS (x.wit.take l) := by rw [EU.out, List.take_of_length_le (by omega)]; simp only [witS, ByteArray.append_assoc]
                          rw [show witsS true (t.ins.take (i + 1)) = wr_catL witS (t.ins.take (i + 1)) from rfl, wr_catL_step witS HX.out, ← ByteArray.append_assoc, ← ET.out, e]
                  · have EW := Lib.hid (show witsS m (t.ins.take i) = witsS m t.ins from by
                      cases m
                      · rfl
                      · rw [List.take_of_length_le (by simp at hil; omega)])
                    rw [EW.out]
                    have z8 : (T6 ++ witsS m t.ins).size ≤ 685610 := by
                      have h1 := wits_le HO.out t.ins.length
                      rw [List.take_length] at h1
                      rw [ByteArray.size_append]
                      unfold witsS
                      split
                      · omega
                      · simp; omega
                    obtain ⟨T8, hT8⟩ : ∃ T8, T8 = T6 ++ witsS m t.ins := ⟨_, rfl⟩
                    rw [← hT8] at z8 ⊢
                    have E8 := Lib.hid hT8
                    have p4 := putS_le t.lock 4
                    obtain ⟨Y, hY, _, r1⟩ := cat_to T8 (Vi.putS t.lock 4) (by omega)
                    have EY := Lib.hid (show Y = wireS t (!bare && hasW t) from by rw [EMM.out, hY, E8.out, E6.out, E5.out, E4.out, E3.out, E2.out, E1.out]; rfl)
                    clear hT8 EW hY
                    have hcase : m = false ∨ (m = true ∧ ¬ (i : Int) < (t.ins.length : Int)) := by
                      cases m
                      · exact .inl rfl
                      · exact .inr ⟨rfl, by simp at hil; omega⟩
                    rcases hcase with rfl | ⟨rfl, i1⟩
                    all_goals
                      go_wp2_with fail
                      refine (Vi.rput_any t.lock 4 wr (by omega) (by omega)).mono ?_
                      rintro e w9 ⟨rfl, hb9⟩
                      have S9 := Lib.hid (HS.out.below hb9)
                      go_wp2_with fail
                      go_ret
                      exact ⟨by rw [EY.out] <;> rfl, S9.out.bel⟩

end Go.Proofs.YtnmfjnfdnjjngaaGreatDoor
