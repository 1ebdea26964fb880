/-
  The statement WireCuts, walked.
-/
import Derived.Test.YtkdkkndccjddnaaPlawd
import Derived.Test.YtkdkkndccjddnaaAwalk
import Derived.Test.YtkdkkndccjddnaaByt
import Derived.Test.YtkdkkndccjddnaaFit
namespace Go.Proofs.Ytkdkkndccjddnaa
open Go.RowKit

theorem wire_le {t : TxD} (hok : t.Ok) (m : Bool) : 4 ≤ (wireS t m).size ∧ (wireS t m).size ≤ 1000000 := by
  have a1 := putS_le t.ver 4
  have a2 := putS_le t.lock 4
  have a3 := markS_le m
  have a4 := vstr_le t.ins.length
  have a5 := vstr_le t.outs.length
  have a6 := ins_le hok t.ins.length
  have a7 := outs_le hok t.outs.length
  have a8 := wits_le hok t.ins.length
  rw [List.take_length] at a6 a7 a8
  have a9 : (witsS m t.ins).size ≤ 565760 := by
    unfold witsS
    split
    · exact a8
    · simp
  have b1 : (Vi.putS t.ver 4).size = 4 := Vi.putS_sz4 _
  simp only [wireS, ByteArray.size_append]
  omega
theorem enc_six {t : TxD} (hok : t.Ok) (hc : checkD t = 0) : t6 (wireS t (hasW t)) z0 = ⟨(wireS t (hasW t)).size, 0⟩ := (wire_of t (hasW t) hok hc (fun h => h)).1

set_option maxHeartbeats 2000000 in
set_option maxRecDepth 100000 in
theorem cuts_law (t : TxD) (vi vo : Value) (k : Nat) (r : ByteArray) (w : World) (ht : TxAt w 0 w.heap.size vi vo t) (hc : t.Came) (hk : k < 65536) :
    Calls Try.prog 7 #[.agg #[.int .u32 t.ver, vi, vo, .int .u32 t.lock], .int .u16 k, .string r] w fun e w' => e = .returned (.bool true) ∧ Below w.heap.size w w' := by
  obtain ⟨W0, hW0⟩ : ∃ W0, W0 = w.alloc (.cells #[.int .u32 t.ver, vi, vo, .int .u32 t.lock] 26) := ⟨_, rfl⟩
  have z0' : W0.heap.size = w.heap.size + 1 := by rw [hW0]; simp
  have hbx : Boxed W0 w.heap.size (.int .u32 t.ver) vi vo (.int .u32 t.lock) := by rw [hW0]; exact Boxed.new _ _ _ _ _ _
  have hT : TxAt W0 0 w.heap.size vi vo t := by rw [hW0]; exact ht.keep (Kept.alloc (Nat.le_refl _) _)
  have HB0 := Lib.hid (show Below w.heap.size w W0 from by rw [hW0]; exact (Below.refl _ _).alloc (Nat.le_refl _) _)
  have HC9 := Lib.hid (fit_tx hbx z0' hT hc W0 (Below.refl _ _))
  have HW0 := Lib.hid hW0
  clear ht hc hT hW0
  obtain ⟨s0, s1, s2, s3⟩ := hbx
  go_enter Try.func7, Try.ntmps7
  go_upto_region 1 with (fail)
  rw [show World.alloc w _ = W0 from HW0.out.symm]
  go_wp2_with fail
  refine HC9.out.mono ?_
  rintro e w1 ⟨u, Ai, Ao, ci, co, rfl, ⟨hut, huo⟩, hb1, -, -⟩
  have K1 := Lib.hid (below_next HB0.out (by omega) hb1)
  have HO := Lib.hid huo
  have z1 := hb1.size
  clear hb1 s0 s1 s2 s3 HC9 HB0
  have C10 := Lib.hid (encode_any u _ _ w1 hut huo)
  obtain ⟨es, hes⟩ : ∃ es, encS u (hasW u) = es := ⟨_, rfl⟩
  obtain ⟨cd, hcd⟩ : ∃ cd, checkD u = cd := ⟨_, rfl⟩
  rw [hes, hcd] at C10
  clear hut
  go_wp2_with fail
  refine C10.out.mono ?_
  rintro e w2 ⟨rfl, hb2⟩
  have K2 := Lib.hid (below_next K1.out (by omega) hb2)
  have z2 := hb2.size
  clear hb2 C10 K1
  by_cases hz : cd = 0
  · subst hz
    by_cases hre : r.size = 0
    · have er : r.toList.isEmpty = true := by
        have : r = ⟨#[]⟩ := ByteArray.ext (Array.eq_empty_of_size_eq_zero hre)
        rw [this]
        decide +kernel
      go_wp2_with fail
      refine (wakes_any _).mono ?_
      rintro e w4 ⟨rfl, hb4⟩
      go_wp2_with fail
      go_ret
      exact ⟨rfl, below_next K2.out (by have := K2.out.size; omega) hb4⟩
    · have er : r.toList.isEmpty = false := by
        rw [List.isEmpty_eq_false_iff]
        intro h
        have : r = ⟨#[]⟩ := Vi.toList_inj (h.trans (by decide +kernel))
        exact hre (by rw [this]; rfl)
      have hse : es = wireS u (hasW u) := by rw [← hes]; unfold encS; rw [if_pos hcd]
      have hsz := wire_le huo (hasW u)
      have h6 := enc_six huo hcd
      rw [← hse] at hsz h6
      clear hes hcd hse huo
      obtain ⟨c, hc1, hc2⟩ : ∃ c : Nat, (k : Int).tmod (es.size : Int) = (c : Int) ∧ c < es.size := ⟨k % es.size, by rw [Int.tmod_eq_emod_of_nonneg (by omega)]; exact (Int.natCast_emod k es.size).symm, Nat.mod_lt _ (by omega)⟩
      have h0 : ¬ (es.size : Int) = 0 := by omega
      have h16 : IntKind.i64.wrap (k : Int) = k := by rw [IntWalk.i64_in _ (by omega)]
      obtain ⟨r1, hr1⟩ : ∃ r1, es.extract 0 c = r1 := ⟨_, rfl⟩
      have q1 := cut_law h6 hc2
      rw [hr1] at q1
      have hr1z : r1.size ≤ 1000000 := by rw [← hr1, ByteArray.size_extract]; omega
      obtain ⟨n, hn1, hn2, hn3, hmin⟩ := run_min_at 50 #[3, 3] 3 r.size
      have hm : ∀ w, (Builtin.min_ #[3, 3] 3 #[.int .i64 (r.size : Int), .int .i64 50]).run Try.prog w = .ok (.int .i64 (n : Nat)) w := hmin
      obtain ⟨m1, hm1⟩ : ∃ m1, r.extract 0 n = m1 := ⟨_, rfl⟩
      have hm1z : m1.size = n := by rw [← hm1, ByteArray.size_extract]; omega
      obtain ⟨r2, hr2, hr2z, hcat⟩ := cat_to es m1 (by omega)
      have q2 := more_law (r := m1) h6 (by omega)
      rw [← hr2] at q2
      have C15 := Lib.hid (fun W => decode_any r1 W (by omega))
      have D15 := Lib.hid (fun W => decode_any r2 W (by omega))
      rw [q1.1] at C15
      rw [q2.1, q2.2] at D15
      obtain ⟨a, ha⟩ : ∃ a, dcA r1 = a := ⟨_, rfl⟩
      rw [ha] at C15 q1
      have hac := q1.2
      clear q1 q2 ha h6 hr2 hmin
      have e1 : ¬ ((c : Int) < (a : Int)) := by omega
      go_wp2_with fail
      refine (wakes_any _).mono ?_
      rintro e w3 ⟨rfl, hb3⟩
      have z3 := hb3.size
      have K3 := Lib.hid (below_next K2.out (by have := K2.out.size; omega) hb3)
      clear hb3 K2
      go_wp2_with fail
      refine (C15.out w3).mono ?_
      rintro e w4 ⟨ti, tp, rfl, ht4, hb4⟩
      have z4 := hb4.size
      obtain ⟨A1, m1', rfl⟩ := ht4.1.form
      obtain ⟨A2, m2', rfl⟩ := ht4.2.form
      generalize (dcT r1).ver = tv
      generalize (dcT r1).lock = tl
      generalize (dcT r1).ins.length = l1
      generalize (dcT r1).outs.length = l2
      clear ht4
      obtain ⟨w5, hw5⟩ : ∃ w5, w5 = w4.alloc (.cells #[.int .u32 tv, .slice A1 l1 m1', .slice A2 l2 m2', .int .u32 tl] 26) := ⟨_, rfl⟩
      have K5 := Lib.hid (show Below w.heap.size w w5 from below_next (below_next K3.out (by have := K3.out.size; omega) hb4) (by have := K3.out.size; omega) (by rw [hw5]; exact (Below.refl _ _).alloc (Nat.le_refl _) _))
      have HW5 := Lib.hid hw5
      clear hw5 hb4 K3
      go_upto_region 6 with (fail)
      rw [show World.alloc w4 _ = w5 from HW5.out.symm]
      go_wp2_with fail
      refine (D15.out w5).mono ?_
      rintro e w6 ⟨ui, up, rfl, ht6, hb6⟩
      obtain ⟨A3, m3', rfl⟩ := ht6.1.form
      obtain ⟨A4, m4', rfl⟩ := ht6.2.form
      generalize (dcT r2).ver = uv
      generalize (dcT r2).lock = ul
      generalize (dcT r2).ins.length = l3
      generalize (dcT r2).outs.length = l4
      clear ht6
      obtain ⟨w7, hw7⟩ : ∃ w7, w7 = w6.alloc (.cells #[.int .u32 uv, .slice A3 l3 m3', .slice A4 l4 m4', .int .u32 ul] 26) := ⟨_, rfl⟩
      have K7 := Lib.hid (show Below w.heap.size w w7 from below_next (below_next K5.out (by have := K5.out.size; omega) hb6) (by have := K5.out.size; have := hb6.size; omega) (by rw [hw7]; exact (Below.refl _ _).alloc (Nat.le_refl _) _))
      have HW7 := Lib.hid hw7
      clear hw7 hb6 K5
      go_upto_region 7 with (fail)
      rw [show World.alloc w6 _ = w7 from HW7.out.symm]
      go_wp2_with fail
      refine (wakes_any _).mono ?_
      rintro e w8 ⟨rfl, hb8⟩
      go_wp2_with fail
      go_ret
      exact ⟨rfl, below_next K7.out (by have := K7.out.size; omega) hb8⟩
  · have e1 : (cd != 0) = true := by simpa using hz
    go_wp2_with fail
    refine (wakes_any _).mono ?_
    rintro e w4 ⟨rfl, hb4⟩
    go_wp2_with fail
    go_ret
    exact ⟨rfl, below_next K2.out (by have := K2.out.size; omega) hb4⟩

end Go.Proofs.Ytkdkkndccjddnaa
