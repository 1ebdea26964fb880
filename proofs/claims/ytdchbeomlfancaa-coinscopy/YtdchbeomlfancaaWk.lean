/-
  What the document fixes of a set (wakes): put, told, taken, and gone.
-/
import Derived.Test.YtdchbeomlfancaaPut
import Derived.Test.YtdchbeomlfancaaAct
namespace Go.Proofs.Ytdchbeomlfancaa
open Go.RowKit

theorem wake_put {s : ByteArray} (h : s.size = 32) : putE [] ⟨s, 0, 5, ⟨#[]⟩, 0⟩ = 0 ∧ putL [] ⟨s, 0, 5, ⟨#[]⟩, 0⟩ = [⟨s, 0, 5, ⟨#[]⟩, 0⟩] := by
  obtain ⟨h1, h2⟩ := put_yes (l := []) (x := ⟨s, 0, 5, ⟨#[]⟩, 0⟩) (by simp [argB, h, goodB]) rfl (by simp [tot, goodB])
  exact ⟨h1, h2⟩
theorem wake_has (s : ByteArray) : hasB [⟨s, 0, 5, ⟨#[]⟩, 0⟩] s 0 = true := hasB_iff.2 ⟨⟨s, 0, 5, ⟨#[]⟩, 0⟩, List.mem_singleton.2 rfl, rfl, rfl⟩
theorem wake_at (s : ByteArray) : atE [⟨s, 0, 5, ⟨#[]⟩, 0⟩] s 0 = ⟨s, 0, 5, ⟨#[]⟩, 0⟩ := by
  have := atE_some (l := [⟨s, 0, 5, ⟨#[]⟩, 0⟩]) (List.pairwise_singleton _ _) (x := ⟨s, 0, 5, ⟨#[]⟩, 0⟩) (by simp)
  exact this
theorem wake_del (s : ByteArray) : delL [⟨s, 0, 5, ⟨#[]⟩, 0⟩] s 0 = [] := by
  unfold delL
  rw [List.filter_cons_of_neg (by simp [isB, ptB])]
  rfl

set_option maxHeartbeats 1000000 in
theorem wakes_any (w : World) : Calls Try.prog 17 #[] w fun e w' => e = .returned (.bool true) ∧ Below w.heap.size w w' := by
  have CN := Lib.hid (new_any w)
  have CI := Lib.hid (fun V => id_any 1 V)
  go_enter Try.func17, Try.ntmps17
  go_wp2_with fail
  refine CN.out.mono ?_
  rintro e w1 ⟨rfl, hs1, hb1, hz1⟩
  have S1 := Lib.hid hs1
  have B1 := Lib.hid hb1
  clear hs1 hb1 CN
  go_wp2_with fail
  refine (CI.out _).mono ?_
  rintro e w2 ⟨s, rfl, hs, hb2⟩
  have la := S1.out.lta
  have z2 := hb2.size
  have B2 := Lib.hid (B1.out.trans (hb2.mono (by omega)))
  have S2 := Lib.hid (S1.out.below hb2 (by omega) (by omega))
  have H32 := Lib.hid hs
  obtain ⟨w3, hw3⟩ : ∃ w3, w3 = w2.alloc (.cells #[.string s, .int .u32 0] 28) := ⟨_, rfl⟩
  have z3 : w3.heap.size = w2.heap.size + 1 := by rw [hw3]; simp
  have hb3 : Below w2.heap.size w2 w3 := by rw [hw3]; exact (Below.refl _ _).alloc (Nat.le_refl _) _
  have h28 : w3.heap[w2.heap.size]? = some (.cells #[.string s, .int .u32 0] 28) := by rw [hw3]; exact heap_alloc_new _ _
  have p0 := cell_in (o := 0) (v := .string s) h28 rfl
  have p1 := cell_in (o := 1) (v := .int .u32 0) h28 rfl
  have B3 := Lib.hid (B2.out.trans (hb3.mono (by omega)))
  have S3 := Lib.hid (S2.out.below hb3 (by omega) (by omega))
  have HW3 := Lib.hid hw3
  have H28 := Lib.hid h28
  have hpk : PtOk s 0 := ⟨by omega, by omega, by omega⟩
  have HPK := Lib.hid hpk
  have CP := Lib.hid (put_any (w.heap.size + 1) w.heap.size [] ⟨s, 0, 5, ⟨#[]⟩, 0⟩ w3 S3.out ⟨hpk, show (-9223372036854775808 : Int) ≤ 5 from by decide, show (5 : Int) ≤ 9223372036854775807 from by decide, Nat.zero_le 64, show (-9223372036854775808 : Int) ≤ 0 from by decide, show (0 : Int) ≤ 9223372036854775807 from by decide⟩)
  rw [(wake_put hs).1, (wake_put hs).2] at CP
  simp only at CP
  clear hs hb2 hw3 hb3 h28 hpk
  go_upto_region 3 with (fail)
  rw [show World.alloc w2 _ = w3 from HW3.out.symm]
  go_wp2_with fail
  refine CP.out.mono ?_
  rintro e w4 ⟨rfl, hs4, hk4⟩
  have S4 := Lib.hid hs4
  have B4 := Lib.hid (But2.below B3.out hk4 (by omega) (Nat.le_refl _) (by omega))
  have K4 := Lib.hid hk4
  have h28 := (hk4.block w2.heap.size (by omega) (by omega) (by omega)).trans H28.out
  have p0 := cell_in (o := 0) (v := .string s) h28 rfl
  have p1 := cell_in (o := 1) (v := .int .u32 0) h28 rfl
  have z4 := hk4.size
  clear hs4 hk4 CP
  go_wp2_with fail
  have CT := Lib.hid (total_any _ _ _ w4 S4.out)
  rw [show tot [⟨s, 0, 5, ⟨#[]⟩, 0⟩] = 5 from rfl] at CT
  refine CT.out.mono ?_
  rintro e w5 ⟨rfl, hw5⟩
  subst w5
  have CK := Lib.hid (take_any _ _ _ s 0 w4 S4.out HPK.out)
  rw [wake_at, show takeE [⟨s, 0, 5, ⟨#[]⟩, 0⟩] s 0 = 0 from by unfold takeE; rw [wake_has]; rfl, wake_del] at CK
  simp only at CK
  clear CT
  go_wp2_with fail
  refine CK.out.mono ?_
  rintro e w5 ⟨rfl, hs5, hk5⟩
  have B5 := Lib.hid (But2.below B4.out hk5 (by omega) (Nat.le_refl _) (by omega))
  have z5 := hk5.size
  have h28' := (hk5.block w2.heap.size (by omega) (by omega) (by omega)).trans h28
  obtain ⟨w6, hw6⟩ : ∃ w6, w6 = w5.alloc (.cells #[.int .i64 5, .string ⟨#[]⟩, .int .i64 0] 35) := ⟨_, rfl⟩
  have z6 : w6.heap.size = w5.heap.size + 1 := by rw [hw6]; simp
  have hb6 : Below w5.heap.size w5 w6 := by rw [hw6]; exact (Below.refl _ _).alloc (Nat.le_refl _) _
  have h35 : w6.heap[w5.heap.size]? = some (.cells #[.int .i64 5, .string ⟨#[]⟩, .int .i64 0] 35) := by rw [hw6]; exact heap_alloc_new _ _
  have S6 := Lib.hid (hs5.below hb6 (by omega) (by omega))
  have B6 := Lib.hid (B5.out.trans (hb6.mono (by omega)))
  have h286 := (hb6.block w2.heap.size (by omega)).trans h28'
  have p0 := cell_in (o := 0) (v := .string s) h286 rfl
  have p1 := cell_in (o := 1) (v := .int .u32 0) h286 rfl
  have HW6 := Lib.hid hw6
  have H35 := Lib.hid h35
  have CK2 := Lib.hid (take_any _ _ _ s 0 w6 S6.out HPK.out)
  rw [show takeE [] s 0 = 8 from rfl, show delL [] s 0 = [] from rfl, show atE [] s 0 = e0 from rfl] at CK2
  simp only [e0] at CK2
  clear hs5 hk5 hw6 hb6 h35 h286 h28' h28 CK
  go_upto_region 6 with (fail)
  rw [show World.alloc w5 _ = w6 from HW6.out.symm]
  go_wp2_with fail
  refine CK2.out.mono ?_
  rintro e w7 ⟨rfl, hs7, hk7⟩
  have z7 := hk7.size
  have h357 := (hk7.block w5.heap.size (by omega) (by omega) (by omega)).trans H35.out
  obtain ⟨w8, hw8⟩ : ∃ w8, w8 = w7.alloc (.cells #[.int .i64 0, .string ⟨#[]⟩, .int .i64 0] 35) := ⟨_, rfl⟩
  have hb8 : Below w7.heap.size w7 w8 := by rw [hw8]; exact (Below.refl _ _).alloc (Nat.le_refl _) _
  have B7 := Lib.hid (But2.below B6.out hk7 (by omega) (Nat.le_refl _) (by omega))
  have B8 := Lib.hid (B7.out.trans (hb8.mono (by omega)))
  have S8 := hs7.below hb8 (by omega) (by omega)
  have h358 := (hb8.block w5.heap.size (by omega)).trans h357
  have y0 := cell_in (o := 0) (v := .int .i64 5) h358 rfl
  have CL := Lib.hid (len_any _ _ _ w8 S8)
  have HW8 := Lib.hid hw8
  simp only [List.length_nil] at CL
  clear hs7 hk7 hw8 hb8 S8 h358 h357 CK2
  go_upto_region 7 with (fail)
  rw [show World.alloc w7 _ = w8 from HW8.out.symm]
  go_wp2_with fail
  refine CL.out.mono ?_
  rintro e w9 ⟨rfl, hw9⟩
  subst w9
  go_wp2_with fail
  go_ret
  exact ⟨rfl, B8.out⟩

end Go.Proofs.Ytdchbeomlfancaa
