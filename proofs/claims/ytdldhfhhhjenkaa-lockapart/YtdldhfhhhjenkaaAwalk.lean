/-
  The statement LockApart, walked.
-/
import Derived.Test.YtdldhfhhhjenkaaPwalk
namespace Go.Proofs.Ytdldhfhhhjenkaa
open Go.RowKit

theorem bytes_ext {a b : ByteArray} (h : a.toList = b.toList) : a = b := by
  rw [ByteArray.toList_eq, ByteArray.toList_eq] at h
  obtain ⟨⟨x⟩⟩ := a
  obtain ⟨⟨y⟩⟩ := b
  simp at h
  rw [h]

set_option maxHeartbeats 4000000 in
set_option maxRecDepth 100000 in
theorem apart_law (l1 l2 : List BrD) (s : ByteArray) (u1 u2 : Value) (w : World) (hb1 : Brs w 0 w.heap.size u1 l1) (hb2 : Brs w 0 w.heap.size u2 l2) (ok1 : ∀ x ∈ l1, x.Ok) (ok2 : ∀ x ∈ l2, x.Ok) (hl1 : l1.length ≤ maxLen) (hl2 : l2.length ≤ maxLen) (hs : s.size ≤ maxLen) :
    Calls Try.prog 8 #[u1, u2, .string s] w fun e w' => e = .returned (.bool true) ∧ Below w.heap.size w w' := by
  obtain ⟨A, c, rfl⟩ := hb1.form
  obtain ⟨B, d, rfl⟩ := hb2.form
  have hcap1 := hb1.cap
  have hcap2 := hb2.cap
  obtain ⟨n, hn⟩ : ∃ n, min l1.length 4 = n := ⟨_, rfl⟩
  obtain ⟨m, hm⟩ : ∃ m, min l2.length 4 = m := ⟨_, rfl⟩
  have hmn : ∀ w, (Builtin.min_ #[3, 3] 3 #[.int .i64 (l1.length : Int), .int .i64 4]).run Try.prog w = .ok (.int .i64 (n : Nat)) w := by rw [← hn]; exact fun w => run_min_nat 4 #[3, 3] 3 l1.length w
  have hmm : ∀ w, (Builtin.min_ #[3, 3] 3 #[.int .i64 (l2.length : Int), .int .i64 4]).run Try.prog w = .ok (.int .i64 (m : Nat)) w := by rw [← hm]; exact fun w => run_min_nat 4 #[3, 3] 3 l2.length w
  have n1 : n ≤ c := by omega
  have n2 : (n : Int) ≤ (c : Int) := by omega
  have n3 : (0 : Int) ≤ (n : Int) := by omega
  have m1 : m ≤ d := by omega
  have m2 : (m : Int) ≤ (d : Int) := by omega
  have m3 : (0 : Int) ≤ (m : Int) := by omega
  have hl1' : l1.length ≤ 9223372036854775807 := by unfold maxLen at hl1; omega
  have hl2' : l2.length ≤ 9223372036854775807 := by unfold maxLen at hl2; omega
  obtain ⟨xs, hxs⟩ : ∃ xs, l1.take n = xs := ⟨_, rfl⟩
  obtain ⟨ys, hys⟩ : ∃ ys, l2.take m = ys := ⟨_, rfl⟩
  have HB1 := Lib.hid (show Brs w 0 w.heap.size (.slice A n c) xs from by rw [← hxs]; exact hb1.take (by omega))
  have HB2 := Lib.hid (show Brs w 0 w.heap.size (.slice B m d) ys from by rw [← hys]; exact hb2.take (by omega))
  have O1 := Lib.hid (show ∀ x ∈ xs, x.Ok from by rw [← hxs]; exact fun x hx => ok1 x (List.mem_of_mem_take hx))
  have O2 := Lib.hid (show ∀ x ∈ ys, x.Ok from by rw [← hys]; exact fun x hx => ok2 x (List.mem_of_mem_take hx))
  have x4 : xs.length ≤ 4 := by rw [← hxs, List.length_take]; omega
  have y4 : ys.length ≤ 4 := by rw [← hys, List.length_take]; omega
  have C1 := Lib.hid (fun W (hW : Below w.heap.size w W) => lput_any xs _ W 0 w.heap.size (HB1.out.keep (Kept.of_below hW (Nat.le_refl _))) hW.size (by omega) O1.out)
  have C2 := Lib.hid (fun W (hW : Below w.heap.size w W) => lput_any ys _ W 0 w.heap.size (HB2.out.keep (Kept.of_below hW (Nat.le_refl _))) hW.size (by omega) O2.out)
  have CE := Lib.hid (fun W (hW : Below w.heap.size w W) => eq_brs A B n m c d xs ys W 0 w.heap.size 0 w.heap.size (HB1.out.keep (Kept.of_below hW (Nat.le_refl _))) (HB2.out.keep (Kept.of_below hW (Nat.le_refl _))) hW.size hW.size (by omega))
  have CG := Lib.hid (fun W => lget_any s W hs)
  have PG := Lib.hid (fun h : gtE s = 0 => put_get h)
  have CP := Lib.hid (fun W v lo hi (h : Brs W lo hi v (gtR s)) (hh : hi ≤ W.heap.size) => lput_any (gtR s) v W lo hi h hh (by have := gtR_len s; omega) (gtR_ok s))
  have EQ := Lib.hid (show ptE xs = 0 → ptE ys = 0 → ((ptS xs).toList == (ptS ys).toList) = allB brB xs ys from fun h1 h2 => by
    by_cases e : xs = ys
    · subst e
      rw [show allB brB xs xs = true from (brsB_iff xs xs).2 rfl]
      simp
    · have e2 : allB brB xs ys = false := by
        cases q : allB brB xs ys
        · rfl
        · exact absurd ((brsB_iff xs ys).1 q) e
      rw [e2]
      rw [beq_eq_false_iff_ne]
      intro q
      exact e (put_eq h1 h2 O1.out O2.out (bytes_ext q)))
  obtain ⟨sx, hsx⟩ : ∃ a, ptS xs = a := ⟨_, rfl⟩
  obtain ⟨sy, hsy⟩ : ∃ a, ptS ys = a := ⟨_, rfl⟩
  obtain ⟨ex, hex⟩ : ∃ a, ptE xs = a := ⟨_, rfl⟩
  obtain ⟨ey, hey⟩ : ∃ a, ptE ys = a := ⟨_, rfl⟩
  obtain ⟨bb, hbb⟩ : ∃ a, allB brB xs ys = a := ⟨_, rfl⟩
  obtain ⟨ge, hge⟩ : ∃ a, gtE s = a := ⟨_, rfl⟩
  rw [hsx, hsy, hex, hey, hbb] at EQ
  rw [hsx, hex] at C1
  rw [hsy, hey] at C2
  rw [hbb] at CE
  rw [hge] at CG PG
  have q0 : (bb != bb) = false := by simp
  have q1 : (s.toList != s.toList) = false := by simp
  clear hb1 hb2 ok1 ok2 hn hm hl1 hl2 hs hxs hys hsx hsy hex hey hbb hge
  go_enter Try.func8, Try.ntmps8
  go_wp2_with fail
  go_quiet (fail)
  clear hmn hmm
  go_wp2_with fail
  refine (C1.out _ (by first | exact (Below.refl _ _).drew | exact below_drewN (Below.refl _ _) _)).mono ?_
  rintro e w1 ⟨rfl, hb1⟩
  have B1 := Lib.hid (show Below w.heap.size w w1 from below_next (a := w) (B := w.heap.size) (by first | exact (Below.refl _ _).drew | exact below_drewN (Below.refl _ _) _) (by first | exact Nat.le_refl _ | simp) hb1)
  clear hb1
  go_wp2_with fail
  refine (C2.out w1 B1.out).mono ?_
  rintro e w2 ⟨rfl, hb2⟩
  have B2 := Lib.hid (below_next B1.out B1.out.size hb2)
  clear hb2
  go_upto_region 4 with (fail)
  go_cut [49] (fun v49 wx => v49 = .bool false ∧ Below w.heap.size w wx)
  case first =>
    by_cases h1 : ex = 0
    · have p1 : (ex == 0) = true := by simp [h1]
      by_cases h2 : ey = 0
      · have p2 : (ey == 0) = true := by simp [h2]
        have p3 := EQ.out h1 h2
        clear h1 h2
        go_wp2_with fail
        refine (CE.out w2 B2.out).mono ?_
        rintro e w3 ⟨rfl, hb3⟩
        have B3 := Lib.hid (below_next B2.out B2.out.size hb3)
        clear hb3
        go_wp2_with fail
        go_meet
        exact ⟨rfl, B3.out⟩
      · have p2 : (ey == 0) = false := by simp [h2]
        clear h1 h2
        go_wp2_with fail
        go_meet
        exact ⟨rfl, B2.out⟩
    · have p1 : (ex == 0) = false := by simp [h1]
      clear h1
      go_wp2_with fail
      go_meet
      exact ⟨rfl, B2.out⟩
  case rest =>
    obtain ⟨rfl, hcut⟩ := hcut
    have B4 := Lib.hid hcut
    clear hcut
    go_wp2_with fail
    refine (CG.out wc).mono ?_
    rintro e w5 ⟨v5, rfl, hr5, hb5⟩
    have CP5 := Lib.hid (CP.out w5 v5 _ _ hr5 (Nat.le_refl _))
    obtain ⟨A5, c5, rfl⟩ := hr5.form
    have B5 := Lib.hid (below_next B4.out B4.out.size hb5)
    obtain ⟨l5, hl5⟩ : ∃ l, (gtR s).length = l := ⟨_, rfl⟩
    rw [hl5] at CP5 ⊢
    clear hr5 hb5 hl5
    by_cases hg : ge = 0
    · have g1 : (ge == 0) = true := by simp [hg]
      obtain ⟨y1, y2⟩ := PG.out hg
      rw [y1, y2] at CP5
      clear hg y1 y2
      go_wp2_with fail
      refine CP5.out.mono ?_
      rintro e w6 ⟨rfl, hb6⟩
      have B6 := Lib.hid (below_next B5.out B5.out.size hb6)
      clear hb6
      go_wp2_with fail
      refine (wakes_any w6).mono ?_
      rintro e w7 ⟨rfl, hb7⟩
      have B7 := Lib.hid (below_next B6.out B6.out.size hb7)
      clear hb7
      go_wp2_with fail
      go_ret
      exact ⟨rfl, B7.out⟩
    · have g1 : (ge == 0) = false := by simp [hg]
      clear hg
      go_wp2_with fail
      refine (wakes_any w5).mono ?_
      rintro e w7 ⟨rfl, hb7⟩
      have B7 := Lib.hid (below_next B5.out B5.out.size hb7)
      clear hb7
      go_wp2_with fail
      go_ret
      exact ⟨rfl, B7.out⟩

end Go.Proofs.Ytdldhfhhhjenkaa
