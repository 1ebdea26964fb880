/-
  A transaction written: its bytes.
  Encode and Bare: the bytes of a transaction that may be.
-/
import Derived.Test.YtnmfjnfdnjjngaaGreatDoorMBld
import Derived.Test.YtnmfjnfdnjjngaaGreatDoorMTell
import Derived.Test.YtnmfjnfdnjjngaaGreatDoorMBrd

namespace Go.Proofs.YtnmfjnfdnjjngaaGreatDoor
open Go.RowKit
set_option maxRecDepth 100000

theorem wrS_new (w : World) (t : TxD) (vi vo : Value) (ht : TxAt w 0 w.heap.size vi vo t) :
    WrS w t vi vo ByteArray.empty (((w.alloc (.cells #[.int .u32 t.ver, vi, vo, .int .u32 t.lock] 51)).alloc (.cells #[.pointer none, .slice none 0 0] 246)).alloc (.cells #[.func (.func 156) #[] #[.pointer (some ⟨w.heap.size + 1, 0, none⟩)]] 249)) := by
  have b2 : Below (w.heap.size + 1) (w.alloc (.cells #[.int .u32 t.ver, vi, vo, .int .u32 t.lock] 51)) (((w.alloc (.cells #[.int .u32 t.ver, vi, vo, .int .u32 t.lock] 51)).alloc (.cells #[.pointer none, .slice none 0 0] 246)).alloc (.cells #[.func (.func 156) #[] #[.pointer (some ⟨w.heap.size + 1, 0, none⟩)]] 249)) := ((Below.refl _ _).alloc (by simp) _).alloc (by simp) _
  have b1 : Below w.heap.size w (((w.alloc (.cells #[.int .u32 t.ver, vi, vo, .int .u32 t.lock] 51)).alloc (.cells #[.pointer none, .slice none 0 0] 246)).alloc (.cells #[.func (.func 156) #[] #[.pointer (some ⟨w.heap.size + 1, 0, none⟩)]] 249)) := (((Below.refl _ _).alloc (Nat.le_refl _) _).alloc (by simp) _).alloc (by simp; omega) _
  refine ⟨.inl ⟨Nat.le_refl _, .slice none 0 0, ?_, World.ownsRow_nil _ _ 5 1, by simp [Value.ownBlock]⟩, ?_, ht.keep (Kept.of_below b1 (Nat.le_refl _)), ?_, b1⟩
  · have h := heap_alloc_new (w.alloc (.cells #[.int .u32 t.ver, vi, vo, .int .u32 t.lock] 51)) (.cells #[.pointer none, .slice none 0 0] 246)
    rw [World.size_alloc] at h
    exact (Below.heap_alloc _ _ _ (by simp)).trans h
  · exact (Boxed.new w _ _ _ _ 51).below (by simp) (b2.mono (by simp))
  · have h := heap_alloc_new ((w.alloc (.cells #[.int .u32 t.ver, vi, vo, .int .u32 t.lock] 51)).alloc (.cells #[.pointer none, .slice none 0 0] 246)) (.cells #[.func (.func 156) #[] #[.pointer (some ⟨w.heap.size + 1, 0, none⟩)]] 249)
    simpa [World.size_alloc] using h

theorem count_zero (B b : Nat) (t : ByteArray) (w : World) (h : Bld B b t w) (hlen : t.size + (Vi.vstr 0).size ≤ 140737488355328) :
    Calls Tryz.prog 156 #[.int .i64 0, .pointer (some ⟨b, 0, none⟩)] w (Wrote B b t (Vi.vstr 0) w) := count_any B b t 0 w h hlen (by omega)
theorem Frm.keep {B b : Nat} {w w' : World} (hf : Frm B b w w') {g : Nat} {c : Array Value} {e : TypeId} (h : w.heap[g]? = some (.cells c e (0, 0))) (he : e ≠ 5) (hg : g ≠ b) : w'.heap[g]? = some (.cells c e (0, 0)) :=
  hf.2 _ _ h (by intro e1; injection e1 with e1; exact hg e1) (fun c' fz e1 => by injection e1 with _ e1 _; exact he e1)
theorem four_cells {w : World} {g : Nat} {a b c d : Value} {e : TypeId} (h : w.heap[g]? = some (.cells #[a, b, c, d] e (0, 0))) : w.cell? ⟨g, 0, none⟩ = some a ∧ w.cell? ⟨g, 1, none⟩ = some b ∧ w.cell? ⟨g, 2, none⟩ = some c ∧ w.cell? ⟨g, 3, none⟩ = some d := by
  refine ⟨?_, ?_, ?_, ?_⟩ <;> (rw [Lib.cell_of_heap h]; rfl)
theorem two_cells {w : World} {g : Nat} {a b : Value} {e : TypeId} (h : w.heap[g]? = some (.cells #[a, b] e (0, 0))) : w.cell? ⟨g, 0, none⟩ = some a ∧ w.cell? ⟨g, 1, none⟩ = some b := by
  refine ⟨?_, ?_⟩ <;> (rw [Lib.cell_of_heap h]; rfl)

set_option maxHeartbeats 4000000 in
set_option maxRecDepth 100000 in
theorem write_any (t : TxD) (vi vo : Value) (m : Bool) (w : World) (ht : TxAt w 0 w.heap.size vi vo t) (hok : t.Ok) (hval : ∀ x ∈ t.outs, 0 ≤ x.val) :
    Calls Tryz.prog 144 #[.agg #[.int .u32 t.ver, vi, vo, .int .u32 t.lock], .bool m] w fun e w' => e = .returned (.string (wireS t m)) ∧ Below w.heap.size w w' := by
  obtain ⟨A1, m1, rfl⟩ := ht.1.form
  obtain ⟨A2, m2, rfl⟩ := ht.2.form
  have HN := Lib.hid (wrS_new w t _ _ ht)
  have HO := Lib.hid hok
  have HV := Lib.hid hval
  have v0 : IntKind.u64.wrap t.ver = t.ver := by have := hok.2.2.2.2; rw [IntKind.wrap_u64]; omega
  have v1 : IntKind.u64.wrap t.lock = t.lock := by have := hok.2.2.2.2; rw [IntKind.wrap_u64]; omega
  have hr := hok.2.2.2.2
  clear ht hok hval
  go_enter Tryz.func144, Tryz.ntmps144
  go_upto_region 5 with (fail)
  obtain ⟨w1, hw1⟩ : ∃ w1, w1 = (((w.alloc (.cells #[.int .u32 t.ver, .slice A1 t.ins.length m1, .slice A2 t.outs.length m2, .int .u32 t.lock] 51)).alloc (.cells #[.pointer none, .slice none 0 0] 246)).alloc (.cells #[.func (.func 156) #[] #[.pointer (some ⟨w.heap.size + 1, 0, none⟩)]] 249)) := ⟨_, rfl⟩
  rw [← hw1] at HN
  rw [← hw1]
  clear hw1
  obtain ⟨b0, b1, b2, b3⟩ := HN.out.box
  have p4 := putS_le t.ver 4
  go_wp2_with fail
  refine (number_any _ _ ByteArray.empty t.ver 4 w1 HN.out.bld (by simp; omega) (by omega) (by omega)).mono ?_
  rintro e w2 hw2
  have S2 := Lib.hid (HN.out.wrote hw2)
  obtain ⟨rfl, _, _⟩ := hw2
  clear b0 b1 b2 b3 HN
  rw [ByteArray.empty_append] at S2
  obtain ⟨T1, hT1⟩ : ∃ T1, T1 = Vi.putS t.ver 4 := ⟨_, rfl⟩
  rw [← hT1] at S2 p4
  have E1 := Lib.hid hT1
  clear hT1
  go_upto_if 25 with (fail)
  go_cut [] (fun wx => Hid (WrS w t (.slice A1 t.ins.length m1) (.slice A2 t.outs.length m2) (T1 ++ markS m) wx))
  case first =>
    cases m
    · go_wp2_with fail
      go_meet
      exact (show Hid _ from by show WrS _ _ _ _ _ _; rw [show markS false = ByteArray.empty from rfl, ByteArray.append_empty]; exact S2.out)
    · have pa := putS_le 0 1
      have pb := putS_le 1 1
      go_wp2_with fail
      refine (number_any _ _ T1 0 1 w2 S2.out.bld (by omega) (by omega) (by omega)).mono ?_
      rintro e w3 hw3
      have S3 := Lib.hid (S2.out.wrote hw3)
      obtain ⟨rfl, _, _⟩ := hw3
      go_wp2_with fail
      refine (number_any _ _ (T1 ++ Vi.putS 0 1) 1 1 w3 S3.out.bld (by rw [ByteArray.size_append]; omega) (by omega) (by omega)).mono ?_
      rintro e w4 hw4
      have S4 := Lib.hid (S3.out.wrote hw4)
      obtain ⟨rfl, _, _⟩ := hw4
      go_wp2_with fail
      go_meet
      exact (show Hid _ from by show WrS _ _ _ _ _ _; rw [show markS true = Vi.putS 0 1 ++ Vi.putS 1 1 from rfl, ← ByteArray.append_assoc]; exact S4.out)
  case rest =>
    have S3 := Lib.hid hcut.out
    clear hcut S2
    obtain ⟨T2, hT2⟩ : ∃ T2, T2 = T1 ++ markS m := ⟨_, rfl⟩
    have z2 : T2.size ≤ 24 := by have := markS_le m; rw [hT2, ByteArray.size_append]; omega
    rw [← hT2] at S3
    have E2 := Lib.hid hT2
    clear hT2 p4
    have hl1 := HO.out.1
    have hl2 := HO.out.2.1
    have hlt := S3.out.lt
    obtain ⟨b0, b1, b2, b3⟩ := S3.out.box
    have hcc := S3.out.cell
    have pv := vstr_le t.ins.length
    go_wp2_with fail
    refine (count_any _ _ T2 t.ins.length wc S3.out.bld (by omega) (by omega)).mono ?_
    rintro e w4 hw4
    have S4 := Lib.hid (S3.out.wrote hw4)
    obtain ⟨rfl, _, _⟩ := hw4
    clear b0 b1 b2 b3 hcc S3 hlt
    obtain ⟨T3, hT3⟩ : ∃ T3, T3 = T2 ++ Vi.vstr t.ins.length := ⟨_, rfl⟩
    have z3 : T3.size ≤ 33 := by rw [hT3, ByteArray.size_append]; omega
    rw [← hT3] at S4
    have E3 := Lib.hid hT3
    clear hT3 z2 pv
    have hlt := S4.out.lt
    obtain ⟨b0, b1, b2, b3⟩ := S4.out.box
    go_wp2_with fail
    go_loopg [10, 38] t.ins.length (fun gg _ s wr => ∃ k : Nat, k ≤ t.ins.length ∧ t.ins.length - k ≤ gg ∧ s = .int .i64 k ∧ Hid (WrS w t (.slice A1 t.ins.length m1) (.slice A2 t.outs.length m2) (T3 ++ wr_catL inS (t.ins.take k)) wr))
    case atStart => exact ⟨0, Nat.zero_le _, by omega, rfl, (show Hid _ from by show WrS _ _ _ _ _ _; rw [List.take_zero, show wr_catL inS [] = ByteArray.empty from rfl, ByteArray.append_empty]; exact S4.out)⟩
    case round =>
      clear b0 b1 b2 b3 hlt S4
      obtain ⟨k, hk, hg, rfl, HS⟩ := hrel
      by_cases hkl : k < t.ins.length
      · have k1 : (k : Int) < (t.ins.length : Int) := by omega
        have k2 : decide (k < t.ins.length) = true := decide_eq_true hkl
        obtain ⟨x, hx⟩ : ∃ x, t.ins[k]? = some x := ⟨_, List.getElem?_eq_getElem hkl⟩
        obtain ⟨b, off, rfl, _, hbh, c0, c1, c2, v, c3, hs⟩ := HS.out.tx.1.at hx
        have hxo := HO.out.2.2.1 x (List.mem_of_getElem? hx)
        have hzr := HS.out.lt
        have hbz : b < wr.heap.size := by omega
        have HX := Lib.hid hx
        have zk := ins_le HO.out k
        obtain ⟨T, hT⟩ : ∃ T, T = T3 ++ wr_catL inS (t.ins.take k) := ⟨_, rfl⟩
        have zT : T.size ≤ 45601 := by rw [hT, ByteArray.size_append]; omega
        rw [← hT] at HS
        have ET := Lib.hid hT
        obtain ⟨Bw, nw, rfl⟩ := hs.form
        clear hx hs hT zk
        obtain ⟨wx, hwx⟩ : ∃ wx, wx = wr.alloc (.cells #[.string x.id, .int .u32 x.ix, .int .u32 x.sq, .slice Bw x.wit.length nw] 107) := ⟨_, rfl⟩
        have hbx : Below wr.heap.size wr wx := by rw [hwx]; exact (Below.refl _ _).alloc (Nat.le_refl _) _
        have hnx : wx.heap[wr.heap.size]? = some (.cells #[.string x.id, .int .u32 x.ix, .int .u32 x.sq, .slice Bw x.wit.length nw] 107 (0, 0)) := by rw [hwx]; exact heap_alloc_new wr _
        have HWX := Lib.hid hwx
        have SX := Lib.hid (HS.out.below hbx)
        have BX := Lib.hid hnx
        have hne : wr.heap.size ≠ w.heap.size + 1 := by omega
        have u1 : IntKind.u64.wrap x.ix = x.ix := by have := hxo.2.1; have := hxo.2.2.1; rw [IntKind.wrap_u64]; omega
        have u2 : IntKind.u64.wrap x.sq = x.sq := by have := hxo.2.2.2.1; have := hxo.2.2.2.2.1; rw [IntKind.wrap_u64]; omega
        have q1 := hxo.1
        have q2 := putS_le x.ix 4
        have q3 := vstr_le 0
        have q4 := putS_le x.sq 4
        have i1 := hxo.2.1
        have i2 := hxo.2.2.1
        have i3 := hxo.2.2.2.1
        have i4 := hxo.2.2.2.2.1
        clear hwx hbx hnx hxo
        go_upto_region 13 with (fail)
        rw [show World.alloc wr _ = wx from HWX.out.symm]
        obtain ⟨y0, y1, y2, y3⟩ := four_cells BX.out
        go_wp2_with fail
        refine (writeString_any _ _ T x.id wx SX.out.bld (by omega) (by have := SX.out.lt; omega)).mono ?_
        rintro e w5 ⟨rfl, hB5, hf5⟩
        have S5 := Lib.hid (SX.out.frm hB5 hf5)
        have BX5 := Lib.hid (hf5.keep BX.out (by decide) hne)
        clear y0 y1 y2 y3 hB5 hf5
        obtain ⟨y0, y1, y2, y3⟩ := four_cells BX5.out
        go_wp2_with fail
        refine (number_any _ _ (T ++ x.id) x.ix 4 w5 S5.out.bld (by rw [ByteArray.size_append]; omega) i1 (by omega)).mono ?_
        rintro e w6 hw6
        have S6 := Lib.hid (S5.out.wrote hw6)
        have BX6 := Lib.hid (hw6.2.2.keep BX5.out (by decide) hne)
        obtain ⟨rfl, _, _⟩ := hw6
        clear y0 y1 y2 y3
        obtain ⟨y0, y1, y2, y3⟩ := four_cells BX6.out
        have hc6 := S6.out.cell
        have l6 := S6.out.lt
        go_wp2_with fail
        refine (count_zero _ _ (T ++ x.id ++ Vi.putS x.ix 4) w6 S6.out.bld (by rw [ByteArray.size_append, ByteArray.size_append]; omega)).mono ?_
        rintro e w7 hw7
        have S7 := Lib.hid (S6.out.wrote hw7)
        have BX7 := Lib.hid (hw7.2.2.keep BX6.out (by decide) hne)
        obtain ⟨rfl, _, _⟩ := hw7
        clear y0 y1 y2 y3 hc6 l6
        obtain ⟨y0, y1, y2, y3⟩ := four_cells BX7.out
        go_wp2_with fail
        refine (number_any _ _ (T ++ x.id ++ Vi.putS x.ix 4 ++ Vi.vstr 0) x.sq 4 w7 S7.out.bld (by rw [ByteArray.size_append, ByteArray.size_append, ByteArray.size_append]; omega) i3 (by omega)).mono ?_
        rintro e w8 hw8
        have S8 := Lib.hid (S7.out.wrote hw8)
        obtain ⟨rfl, _, _⟩ := hw8
        clear y0 y1 y2 y3
        go_wp2_with fail
        go_roundg (t.ins.length - (k + 1))
        case measure => omega
        case rel =>
          refine ⟨k + 1, by omega, by omega, by go_num, (show Hid _ from ?_)⟩
          show WrS _ _ _ _ _ _
          rw [wr_catL_step inS HX.out, ← ByteArray.append_assoc, ← ET.out]
          have e : T ++ inS x = T ++ x.id ++ Vi.putS x.ix 4 ++ Vi.vstr 0 ++ Vi.putS x.sq 4 := by simp only [inS, ByteArray.append_assoc]
          rw [e]
          exact S8.out
      · have k1 : ¬ (k : Int) < (t.ins.length : Int) := by omega
        obtain ⟨T4, hT4⟩ : ∃ T4, T4 = T3 ++ wr_catL inS (t.ins.take k) := ⟨_, rfl⟩
        have z4 : T4.size ≤ 45601 := by have := ins_le HO.out k; rw [hT4, ByteArray.size_append]; omega
        rw [← hT4] at HS
        have E4 := Lib.hid (show T4 = T3 ++ wr_catL inS t.ins from by rw [hT4, List.take_of_length_le (by omega)])
        clear hT4 z3
        obtain ⟨wo, hwo⟩ : ∃ wo, wo = wr := ⟨_, rfl⟩
        subst hwo
        have hlt := HS.out.lt
        obtain ⟨b0, b1, b2, b3⟩ := HS.out.box
        have hcc := HS.out.cell
        have pv := vstr_le t.outs.length
        go_wp2_with fail
        refine (count_any _ _ T4 t.outs.length wo HS.out.bld (by omega) (by omega)).mono ?_
        rintro e w5 hw5
        have S5 := Lib.hid (HS.out.wrote hw5)
        obtain ⟨rfl, _, _⟩ := hw5
        clear b0 b1 b2 b3 hcc HS hlt
        obtain ⟨T5, hT5⟩ : ∃ T5, T5 = T4 ++ Vi.vstr t.outs.length := ⟨_, rfl⟩
        have z5 : T5.size ≤ 45610 := by rw [hT5, ByteArray.size_append]; omega
        rw [← hT5] at S5
        have E5 := Lib.hid hT5
        clear hT5 z4 pv
        have hlt := S5.out.lt
        obtain ⟨b0, b1, b2, b3⟩ := S5.out.box
        go_wp2_with fail
        go_loopg [12, 68] t.outs.length (fun gg _ s wr => ∃ k : Nat, k ≤ t.outs.length ∧ t.outs.length - k ≤ gg ∧ s = .int .i64 k ∧ Hid (WrS w t (.slice A1 t.ins.length m1) (.slice A2 t.outs.length m2) (T5 ++ wr_catL outS (t.outs.take k)) wr))
        case atStart => exact ⟨0, Nat.zero_le _, by omega, rfl, (show Hid _ from by show WrS _ _ _ _ _ _; rw [List.take_zero, show wr_catL outS [] = ByteArray.empty from rfl, ByteArray.append_empty]; exact S5.out)⟩
        case round =>
          clear b0 b1 b2 b3 hlt S5
          obtain ⟨j, hj, hgj, rfl, HS⟩ := hrel
          by_cases hjl : j < t.outs.length
          · have j1 : (j : Int) < (t.outs.length : Int) := by omega
            have j2 : decide (j < t.outs.length) = true := decide_eq_true hjl
            obtain ⟨x, hx⟩ : ∃ x, t.outs[j]? = some x := ⟨_, List.getElem?_eq_getElem hjl⟩
            obtain ⟨b, off, rfl, _, hbh, c0, c1⟩ := HS.out.tx.2.at hx
            have hxo := HO.out.2.2.2.1 x (List.mem_of_getElem? hx)
            have hxv := HV.out x (List.mem_of_getElem? hx)
            have hzr := HS.out.lt
            have hbz : b < wr.heap.size := by omega
            have HX := Lib.hid hx
            have zk := outs_le HO.out j
            obtain ⟨T, hT⟩ : ∃ T, T = T5 ++ wr_catL outS (t.outs.take j) := ⟨_, rfl⟩
            have zT : T.size ≤ 119850 := by rw [hT, ByteArray.size_append]; omega
            rw [← hT] at HS
            have ET := Lib.hid hT
            clear hx hT zk
            obtain ⟨wx, hwx⟩ : ∃ wx, wx = wr.alloc (.cells #[.int .i64 x.val, .string x.scr] 62) := ⟨_, rfl⟩
            have hbx : Below wr.heap.size wr wx := by rw [hwx]; exact (Below.refl _ _).alloc (Nat.le_refl _) _
            have hnx : wx.heap[wr.heap.size]? = some (.cells #[.int .i64 x.val, .string x.scr] 62 (0, 0)) := by rw [hwx]; exact heap_alloc_new wr _
            have HWX := Lib.hid hwx
            have SX := Lib.hid (HS.out.below hbx)
            have BX := Lib.hid hnx
            have hne : wr.heap.size ≠ w.heap.size + 1 := by omega
            have i2 := hxo.2.1
            have u1 : IntKind.u64.wrap x.val = x.val := by rw [IntKind.wrap_u64]; omega
            have q1 := hxo.2.2
            have q2 := putS_le x.val 8
            have q3 := vstr_le x.scr.size
            clear hwx hbx hnx hxo
            go_upto_region 22 with (fail)
            rw [show World.alloc wr _ = wx from HWX.out.symm]
            obtain ⟨y0, y1⟩ := two_cells BX.out
            go_wp2_with fail
            refine (number_any _ _ T x.val 8 wx SX.out.bld (by omega) hxv (by omega)).mono ?_
            rintro e w6 hw6
            have S6 := Lib.hid (SX.out.wrote hw6)
            have BX6 := Lib.hid (hw6.2.2.keep BX.out (by decide) hne)
            obtain ⟨rfl, _, _⟩ := hw6
            clear y0 y1
            obtain ⟨y0, y1⟩ := two_cells BX6.out
            have hc6 := S6.out.cell
            go_wp2_with fail
            refine (counted_any _ _ (w.heap.size + 1 + 1) (T ++ Vi.putS x.val 8) x.scr w6 S6.out.bld (by rw [ByteArray.size_append]; omega) (by omega) hc6).mono ?_
            rintro e w7 hw7
            have S7 := Lib.hid (S6.out.wrote hw7)
            obtain ⟨rfl, _, _⟩ := hw7
            clear y0 y1 hc6
            go_wp2_with fail
            go_roundg (t.outs.length - (j + 1))
            case measure => omega
            case rel =>
              refine ⟨j + 1, by omega, by omega, by go_num, (show Hid _ from ?_)⟩
              show WrS _ _ _ _ _ _
              rw [wr_catL_step outS HX.out, ← ByteArray.append_assoc, ← ET.out]
              have e : T ++ outS x = T ++ Vi.putS x.val 8 ++ (Vi.vstr x.scr.size ++ x.scr) := by simp only [outS, itemS, ByteArray.append_assoc]
              rw [e]
              exact S7.out
          · have j1 : ¬ (j : Int) < (t.outs.length : Int) := by omega
            obtain ⟨T6, hT6⟩ : ∃ T6, T6 = T5 ++ wr_catL outS (t.outs.take j) := ⟨_, rfl⟩
            have z6 : T6.size ≤ 119850 := by have := outs_le HO.out j; rw [hT6, ByteArray.size_append]; omega
            rw [← hT6] at HS
            have E6 := Lib.hid (show T6 = T5 ++ wr_catL outS t.outs from by rw [hT6, List.take_of_length_le (by omega)])
            clear hT6 z5
            obtain ⟨wp, hwp⟩ : ∃ wp, wp = wr := ⟨_, rfl⟩
            subst hwp
            go_upto_if 82 with (fail)
            go_cut [] (fun wx => Hid (WrS w t (.slice A1 t.ins.length m1) (.slice A2 t.outs.length m2) (T6 ++ witsS m t.ins) wx))
            case first =>
              cases m
              · go_wp2_with fail
                go_meet
                exact (show Hid _ from by show WrS _ _ _ _ _ _; rw [show witsS false t.ins = ByteArray.empty from rfl, ByteArray.append_empty]; exact HS.out)
              · have hlt := HS.out.lt
                obtain ⟨b0, b1, b2, b3⟩ := HS.out.box
                go_wp2_with fail
                go_loopg [14, 16, 86] t.ins.length (fun gg _ _ s wr => ∃ k : Nat, k ≤ t.ins.length ∧ t.ins.length - k ≤ gg ∧ s = .int .i64 k ∧ Hid (WrS w t (.slice A1 t.ins.length m1) (.slice A2 t.outs.length m2) (T6 ++ wr_catL witS (t.ins.take k)) wr))
                case atStart => exact ⟨0, Nat.zero_le _, by omega, rfl, (show Hid _ from by show WrS _ _ _ _ _ _; rw [List.take_zero, show wr_catL witS [] = ByteArray.empty from rfl, ByteArray.append_empty]; exact HS.out)⟩
                case round =>
                  clear b0 b1 b2 b3 hlt HS
                  obtain ⟨i, hi', hgi, rfl, HS⟩ := hrel
                  by_cases hil : i < t.ins.length
                  · have i1 : (i : Int) < (t.ins.length : Int) := by omega
                    have i2 : decide (i < t.ins.length) = true := decide_eq_true hil
                    obtain ⟨x, hx⟩ : ∃ x, t.ins[i]? = some x := ⟨_, List.getElem?_eq_getElem hil⟩
                    obtain ⟨b, off, rfl, _, hbh, c0, c1, c2, v, c3, hs⟩ := HS.out.tx.1.at hx
                    have hxo := HO.out.2.2.1 x (List.mem_of_getElem? hx)
                    have hzr := HS.out.lt
                    have hbz : b < wr.heap.size := by omega
                    have HX := Lib.hid hx
                    have zk := wits_le HO.out i
                    obtain ⟨T, hT⟩ : ∃ T, T = T6 ++ wr_catL witS (t.ins.take i) := ⟨_, rfl⟩
                    have zT : T.size ≤ 685610 := by rw [hT, ByteArray.size_append]; omega
                    rw [← hT] at HS
                    have ET := Lib.hid hT
                    obtain ⟨Bw, nw, rfl⟩ := hs.form
                    have hwl := hxo.2.2.2.2.2.1
                    have HXO := Lib.hid hxo
                    have HST := Lib.hid hs
                    have KW := Lib.hid (fun (W : World) (hW : Below w.heap.size w W) => (show Kept 0 w.heap.size wr W from fun b _ hb => (hW.block b hb).trans (HS.out.bel.block b hb).symm))
                    clear hx hs hT zk hxo
                    obtain ⟨wq, hwq⟩ : ∃ wq, wq = wr := ⟨_, rfl⟩
                    subst hwq
                    obtain ⟨wx, hwx⟩ : ∃ wx, wx = wq.alloc (.cells #[.string x.id, .int .u32 x.ix, .int .u32 x.sq, .slice Bw x.wit.length nw] 107) := ⟨_, rfl⟩
                    have hbx : Below wq.heap.size wq wx := by rw [hwx]; exact (Below.refl _ _).alloc (Nat.le_refl _) _
                    have hnx : wx.heap[wq.heap.size]? = some (.cells #[.string x.id, .int .u32 x.ix, .int .u32 x.sq, .slice Bw x.wit.length nw] 107 (0, 0)) := by rw [hwx]; exact heap_alloc_new wq _
                    have HWX := Lib.hid hwx
                    have SX := Lib.hid (HS.out.below hbx)
                    have BX := Lib.hid hnx
                    have hne : wq.heap.size ≠ w.heap.size + 1 := by omega
                    have q3 := vstr_le x.wit.length
                    clear hwx hbx hnx
                    go_upto_region 29 with (fail)
                    rw [show World.alloc wq _ = wx from HWX.out.symm]
                    obtain ⟨y0, y1, y2, y3⟩ := four_cells BX.out
                    have hcc := SX.out.cell
                    go_wp2_with fail
                    refine (count_any _ _ T x.wit.length wx SX.out.bld (by omega) (by omega)).mono ?_
                    rintro e w6 hw6
                    have S6 := Lib.hid (SX.out.wrote hw6)
                    have BX6 := Lib.hid (hw6.2.2.keep BX.out (by decide) hne)
                    obtain ⟨rfl, _, _⟩ := hw6
                    clear y0 y1 y2 y3 hcc c0 c1 c2 c3
                    obtain ⟨y0, y1, y2, y3⟩ := four_cells BX6.out
                    obtain ⟨U, hU⟩ : ∃ U, U = T ++ Vi.vstr x.wit.length := ⟨_, rfl⟩
                    have zU : U.size ≤ 685619 := by rw [hU, ByteArray.size_append]; omega
                    rw [← hU] at S6
                    have EU := Lib.hid hU
                    clear hU
                    go_wp2_with fail
                    go_loopg [16, 98] x.wit.length (fun gg _ s wr => ∃ k : Nat, k ≤ x.wit.length ∧ x.wit.length - k ≤ gg ∧ s = .int .i64 k ∧ Hid (WrS w t (.slice (some ⟨b, off, none⟩) t.ins.length m1) (.slice A2 t.outs.length m2) (U ++ wr_catL itemS (x.wit.take k)) wr))
                    case atStart => exact ⟨0, Nat.zero_le _, by omega, rfl, (show Hid _ from by show WrS _ _ _ _ _ _; rw [List.take_zero, show wr_catL itemS [] = ByteArray.empty from rfl, ByteArray.append_empty]; exact S6.out)⟩
                    case round =>
                      clear y0 y1 y2 y3 S6 BX6
                      obtain ⟨l, hl, hgl, rfl, HS6⟩ := hrel
                      by_cases hll : l < x.wit.length
                      · have n1 : (l : Int) < (x.wit.length : Int) := by omega
                        have n2 : decide (l < x.wit.length) = true := decide_eq_true hll
                        obtain ⟨r, hr'⟩ : ∃ r, x.wit[l]? = some r := ⟨_, List.getElem?_eq_getElem hll⟩
                        obtain ⟨eb, eo, rfl, _, hebh, cs⟩ := (HST.out.keep (KW.out wr HS6.out.bel)).at hll
                        rw [show x.wit.getD l ByteArray.empty = r from by simp [List.getD_eq_getElem?_getD, hr']] at cs
                        have hro := HXO.out.2.2.2.2.2.2 r (List.mem_of_getElem? hr')
                        have HR := Lib.hid hr'
                        have zl := wit_le HXO.out l
                        obtain ⟨V, hV⟩ : ∃ V, V = U ++ wr_catL itemS (x.wit.take l) := ⟨_, rfl⟩
                        have zV : V.size ≤ 686715 := by rw [hV, ByteArray.size_append]; omega
                        rw [← hV] at HS6
                        have EV := Lib.hid hV
                        have q5 := vstr_le r.size
                        have hcc := HS6.out.cell
                        have hl6 := HS6.out.lt
                        have hez : eb < wr.heap.size := by omega
                        clear hr' hV zl
                        go_wp2_with fail
                        refine (counted_any _ _ (w.heap.size + 1 + 1) V r wr HS6.out.bld (by omega) (by omega) hcc).mono ?_
                        rintro e w7 hw7
                        have S7 := Lib.hid (HS6.out.wrote hw7)
                        obtain ⟨rfl, _, _⟩ := hw7
                        clear hcc cs
                        go_wp2_with fail
                        go_roundg (x.wit.length - (l + 1))
                        case measure => omega
                        case rel =>
                          refine ⟨l + 1, by omega, by omega, by go_num, (show Hid _ from ?_)⟩
                          show WrS _ _ _ _ _ _
                          rw [wr_catL_step itemS HR.out, ← ByteArray.append_assoc, ← EV.out]
                          exact S7.out
                      · have n1 : ¬ (l : Int) < (x.wit.length : Int) := by omega
                        go_wp2_with fail
                        go_roundg (t.ins.length - (i + 1))
                        case measure => omega
                        case rel =>
                          refine ⟨i + 1, by omega, by omega, by go_num, (show Hid _ from ?_)⟩
                          show WrS _ _ _ _ _ _
                          rw [wr_catL_step witS HX.out, ← ByteArray.append_assoc, ← ET.out]
                          have e : T ++ witS x = U ++ wr_catL itemS (x.wit.take l) := by rw [EU.out, List.take_of_length_le (by omega)]; simp only [witS, ByteArray.append_assoc]
                          rw [e]
                          exact HS6.out
                  · have i1 : ¬ (i : Int) < (t.ins.length : Int) := by omega
                    go_wp2_with fail
                    go_meet
                    refine (show Hid _ from ?_)
                    show WrS _ _ _ _ _ _
                    rw [show witsS true t.ins = wr_catL witS t.ins from rfl]
                    have e : t.ins.take i = t.ins := List.take_of_length_le (by omega)
                    have h := HS.out
                    rw [e] at h
                    exact h
            case rest =>
              have S8 := Lib.hid hcut.out
              clear hcut HS
              have z8 : (T6 ++ witsS m t.ins).size ≤ 685610 := by
                have h1 := wits_le HO.out t.ins.length
                rw [List.take_length] at h1
                rw [ByteArray.size_append]
                unfold witsS
                split
                · omega
                · simp; omega
              obtain ⟨T8, hT8⟩ : ∃ T8, T8 = T6 ++ witsS m t.ins := ⟨_, rfl⟩
              rw [← hT8] at S8 z8
              have E8 := Lib.hid hT8
              clear hT8
              have hlt := S8.out.lt
              obtain ⟨b0, b1, b2, b3⟩ := S8.out.box
              have p4 := putS_le t.lock 4
              go_wp2_with fail
              refine (number_any _ _ T8 t.lock 4 wc S8.out.bld (by omega) (by omega) (by omega)).mono ?_
              rintro e w9 hw9
              have S9 := Lib.hid (S8.out.wrote hw9)
              obtain ⟨rfl, _, _⟩ := hw9
              clear b0 b1 b2 b3
              go_wp2_with fail
              refine (string_any _ _ _ w9 S9.out.bld).mono ?_
              rintro e w10 ⟨rfl, hb10⟩
              go_wp2_with fail
              go_ret
              refine ⟨?_, ⟨hb10.os.trans S9.out.bel.os, hb10.tape.trans S9.out.bel.tape, hb10.output.trans S9.out.bel.output, Nat.le_trans S9.out.bel.size hb10.size, fun b hb => (hb10.block b (by omega)).trans (S9.out.bel.block b hb)⟩⟩
              rw [E8.out, E6.out, E5.out, E4.out, E3.out, E2.out, E1.out]
              rfl

end Go.Proofs.YtnmfjnfdnjjngaaGreatDoor

namespace Go.Proofs.YtnmfjnfdnjjngaaGreatDoor
open Go.RowKit
set_option maxRecDepth 100000

theorem addOk_nonneg {s a : Int} (h : addOk s a = true) : 0 ≤ a := by
  by_cases hg : 0 ≤ a ∧ a ≤ 2100000000000000
  · exact hg.1
  · unfold addOk at h
    rw [goodB_false hg] at h
    simp at h
theorem sum_nonneg (s : Int) (zs : List Int) (h : (sumFrom s zs).2 = 0) : ∀ z ∈ zs, 0 ≤ z := by
  induction zs generalizing s with
  | nil => simp
  | cons a r ih =>
    cases hok : addOk s a
    · simp [sumFrom, hok] at h
    · simp only [sumFrom, hok, if_true] at h
      intro z hz
      rcases List.mem_cons.1 hz with rfl | hz
      · exact addOk_nonneg hok
      · exact ih (s + a) h z hz
theorem check_vals {t : TxD} (h : checkD t = 0) : ∀ x ∈ t.outs, 0 ≤ x.val := by
  have htot : (totalD t.outs).2 = 0 := by
    unfold checkD at h
    split at h
    · omega
    · split at h
      · omega
      · split at h
        · omega
        · split at h
          · omega
          · exact h
  intro x hx
  exact sum_nonneg 0 _ htot _ (List.mem_map.2 ⟨x, hx, rfl⟩)

/-- The bytes, or none beside an error. -/
def encS (t : TxD) (m : Bool) : ByteArray := if checkD t = 0 then wireS t m else ⟨#[]⟩
/-- Is a Witness not empty? -/
def hasW (t : TxD) : Bool := t.ins.any fun x => decide (0 < x.wit.length)

theorem wr_ret_se {a b : ByteArray} {c d : Int} (h : a = b) (h2 : c = d) : Ending.returned (.tuple #[.string a, .int .i64 c]) = .returned (.tuple #[.string b, .int .i64 d]) := by rw [h, h2]

set_option maxHeartbeats 1000000 in
set_option maxRecDepth 100000 in
theorem checked_any (t : TxD) (vi vo : Value) (m : Bool) (w : World) (ht : TxAt w 0 w.heap.size vi vo t) (hok : t.Ok) :
    Calls Tryz.prog 134 #[.agg #[.int .u32 t.ver, vi, vo, .int .u32 t.lock], .bool m] w fun e w' => e = .returned (.tuple #[.string (encS t m), .int .i64 (checkD t)]) ∧ Below w.heap.size w w' := by
  obtain ⟨A1, m1, rfl⟩ := ht.1.form
  obtain ⟨A2, m2, rfl⟩ := ht.2.form
  have HT := Lib.hid ht
  have HO := Lib.hid hok
  clear ht hok
  have B0 := Lib.hid (fun o => (Below.refl w.heap.size w).alloc (Nat.le_refl _) o)
  obtain ⟨w1, hw1⟩ : ∃ w1, w1 = w.alloc (.cells #[.int .u32 t.ver, .slice A1 t.ins.length m1, .slice A2 t.outs.length m2, .int .u32 t.lock] 51) := ⟨_, rfl⟩
  have hb1 : Below w.heap.size w w1 := by rw [hw1]; exact B0.out _
  have hT1 : TxAt w1 0 w.heap.size (.slice A1 t.ins.length m1) (.slice A2 t.outs.length m2) t := HT.out.keep (Kept.of_below hb1 (Nat.le_refl _))
  have z1 : w1.heap.size = w.heap.size + 1 := by rw [hw1]; simp
  have bx : Boxed w1 w.heap.size (.int .u32 t.ver) (.slice A1 t.ins.length m1) (.slice A2 t.outs.length m2) (.int .u32 t.lock) := by rw [hw1]; exact Boxed.new _ _ _ _ _ _
  have HT1 := Lib.hid hT1
  have HB1 := Lib.hid hb1
  have BX := Lib.hid bx
  have HW1 := Lib.hid hw1
  clear hb1 hT1 hw1
  go_enter Tryz.func134, Tryz.ntmps134
  go_upto_region 1 with (fail)
  rw [show World.alloc w _ = w1 from HW1.out.symm]
  obtain ⟨a0, a1, a2, a3⟩ := bx
  go_wp2_with fail
  refine (check_any t _ _ w1 0 w.heap.size HT1.out (by omega) HO.out).mono ?_
  rintro e w2 ⟨rfl, hb2⟩
  have BX2 := Lib.hid (BX.out.below (by omega) hb2)
  have HT2 := Lib.hid (HT1.out.keep (Kept.of_below hb2 (by omega)))
  have HB2 := Lib.hid (below_next HB1.out (by omega) hb2)
  have z2 := hb2.size
  clear hb2 a0 a1 a2 a3
  by_cases hz : checkD t = 0
  · have e1 : (checkD t != 0) = false := by simpa using hz
    have E := Lib.hid (show encS t m = wireS t m from by unfold encS; rw [if_pos hz])
    have HZ := Lib.hid hz
    clear hz
    obtain ⟨a0, a1, a2, a3⟩ := BX2.out
    go_wp2_with fail
    refine (write_any t _ _ m w2 (HT2.out.wide (Nat.le_refl _) (by omega)) HO.out (check_vals HZ.out)).mono ?_
    rintro e w3 ⟨rfl, hb3⟩
    go_wp2_with fail
    go_ret2
    exact ⟨wr_ret_se E.out.symm HZ.out.symm, below_next HB2.out (by omega) hb3⟩
  · have e1 : (checkD t != 0) = true := by simpa using hz
    have E := Lib.hid (show encS t m = ⟨#[]⟩ from by unfold encS; rw [if_neg hz])
    clear hz
    go_wp2_with fail
    go_ret2
    exact ⟨wr_ret_se E.out.symm rfl, HB2.out⟩

set_option maxHeartbeats 1000000 in
set_option maxRecDepth 100000 in
theorem bare_any (t : TxD) (vi vo : Value) (w : World) (ht : TxAt w 0 w.heap.size vi vo t) (hok : t.Ok) :
    Calls Tryz.prog 112 #[.agg #[.int .u32 t.ver, vi, vo, .int .u32 t.lock]] w fun e w' => e = .returned (.tuple #[.string (encS t false), .int .i64 (checkD t)]) ∧ Below w.heap.size w w' := by
  have HT := Lib.hid ht
  have HO := Lib.hid hok
  clear ht hok
  have B0 := Lib.hid (fun o => (Below.refl w.heap.size w).alloc (Nat.le_refl _) o)
  go_enter Tryz.func112, Tryz.ntmps112
  go_wp2_with fail
  refine (checked_any t vi vo false _ ((HT.out.keep (Kept.of_below (B0.out _) (Nat.le_refl _))).wide (Nat.le_refl _) (by simp)) HO.out).mono ?_
  rintro e w3 ⟨rfl, hb3⟩
  go_wp2_with fail
  go_ret2
  exact ⟨rfl, below_next (B0.out _) (by simp) hb3⟩

end Go.Proofs.YtnmfjnfdnjjngaaGreatDoor
