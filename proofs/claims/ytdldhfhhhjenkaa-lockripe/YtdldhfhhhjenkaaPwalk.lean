/-
  The statement LockPuts, walked.
-/
import Derived.Test.YtdldhfhhhjenkaaLpur
import Derived.Test.YtdldhfhhhjenkaaLeq
import Derived.Test.YtdldhfhhhjenkaaWake
namespace Go.Proofs.Ytdldhfhhhjenkaa
open Go.RowKit

theorem run_min_nat (c : Nat) (ts : Array TypeId) (t : TypeId) (x : Nat) (w : World) : (Builtin.min_ ts t #[.int .i64 (x : Int), .int .i64 (c : Int)]).run Try.prog w = .ok (.int .i64 (min x c : Nat)) w := by
  rw [run_min_int2 w ts t .i64 .i64 x c]
  by_cases h : (c : Int) < x
  · rw [if_pos h, Nat.min_eq_right (by omega)]
  · rw [if_neg h, Nat.min_eq_left (by omega)]
theorem Brs.cap {w : World} {lo hi : Nat} {A : Option Addr} {n c : Nat} {xs : List BrD} (h : Brs w lo hi (.slice A n c) xs) : xs.length ≤ c := by
  obtain ⟨A', c', hv, hc, h⟩ := h
  injection hv with _ _ e3
  subst e3
  exact hc
theorem ptS_len {xs : List BrD} : (ptS xs).size ≤ maxLen := by
  unfold ptS
  split
  · rename_i h
    have := ptE_parts h
    rw [scr_size]
    unfold maxLen
    omega
  · exact Nat.zero_le _
theorem ptE_cases (xs : List BrD) : ptE xs = 0 ∨ ptE xs = 3 ∨ ptE xs = 6 := by
  unfold ptE
  split
  · exact .inr (.inr rfl)
  · split
    · exact .inr (.inl rfl)
    · exact .inl rfl
theorem gtE_cases (s : ByteArray) : (gtE s = 0 ∧ 1 ≤ (gtR s).length) ∨ (gtE s = 4 ∧ gtR s = []) := by
  by_cases h : gtE s = 0
  · obtain ⟨h1, _, _, _, hR⟩ := gtE_parts h
    exact .inl ⟨h, by rw [hR, gtL_length]; exact h1⟩
  · refine .inr ⟨?_, gt_nil' h⟩
    unfold gtE at h ⊢
    split at h
    · split at h
      · rename_i h1 h2; rw [if_pos h1, if_pos h2]
      · exact absurd rfl h
    · rename_i h1; rw [if_neg h1]
where gt_nil' {s : ByteArray} (h : ¬ gtE s = 0) : gtR s = [] := by unfold gtR; rw [if_neg h]

set_option maxHeartbeats 4000000 in
set_option maxRecDepth 100000 in
theorem puts_law (ls : List BrD) (s : ByteArray) (v : Value) (w : World) (hb : Brs w 0 w.heap.size v ls) (hok : ∀ x ∈ ls, x.Ok) (hl : ls.length ≤ maxLen) (hs : s.size ≤ maxLen) :
    Calls Try.prog 3 #[v, .string s] w fun e w' => e = .returned (.bool true) ∧ Below w.heap.size w w' := by
  obtain ⟨A, c, rfl⟩ := hb.form
  have hcap := hb.cap
  obtain ⟨n, hn⟩ : ∃ n, min ls.length 6 = n := ⟨_, rfl⟩
  have hm : ∀ w, (Builtin.min_ #[3, 3] 3 #[.int .i64 (ls.length : Int), .int .i64 6]).run Try.prog w = .ok (.int .i64 (n : Nat)) w := by rw [← hn]; exact fun w => run_min_nat 6 #[3, 3] 3 ls.length w
  have n1 : n ≤ c := by omega
  have n2 : (n : Int) ≤ (c : Int) := by omega
  have n3 : (0 : Int) ≤ (n : Int) := by omega
  have hl' : ls.length ≤ 9223372036854775807 := by unfold maxLen at hl; omega
  obtain ⟨xs, hxs⟩ : ∃ xs, ls.take n = xs := ⟨_, rfl⟩
  have HB := Lib.hid (show Brs w 0 w.heap.size (.slice A n c) xs from by rw [← hxs]; exact hb.take (by omega))
  have HO := Lib.hid (show ∀ x ∈ xs, x.Ok from by rw [← hxs]; exact fun x hx => hok x (List.mem_of_mem_take hx))
  have hxl : xs.length ≤ 6 := by rw [← hxs, List.length_take]; omega
  have C9 := Lib.hid (lput_any xs _ w 0 w.heap.size HB.out (Nat.le_refl _) (by omega) HO.out)
  have C10 := Lib.hid (fun W (hW : Below w.heap.size w W) => rlput_any xs _ W 0 w.heap.size (HB.out.keep (Kept.of_below hW (Nat.le_refl _))) hW.size (by omega) HO.out)
  have C11 := Lib.hid (fun W => lget_any (ptS xs) W ptS_len)
  have D11 := Lib.hid (fun W => lget_any s W hs)
  have D13 := Lib.hid (fun W => rlget_any s W hs)
  have GP := Lib.hid (fun h : ptE xs = 0 => get_put h HO.out)
  have GL := Lib.hid (gtR_len (ptS xs))
  have GS := Lib.hid (gtR_len s)
  have gc := gtE_cases s
  have pc := ptE_cases xs
  obtain ⟨a, ha⟩ : ∃ a, ptS xs = a := ⟨_, rfl⟩
  obtain ⟨pe, hpe⟩ : ∃ e, ptE xs = e := ⟨_, rfl⟩
  obtain ⟨ge, hge⟩ : ∃ e, gtE s = e := ⟨_, rfl⟩
  rw [ha, hpe] at C9 C10
  rw [ha] at C11 GP GL
  rw [hpe] at GP pc
  rw [hge] at gc D11
  obtain ⟨g1, hg1⟩ : ∃ e, gtE a = e := ⟨_, rfl⟩
  rw [hg1] at C11 GP
  have q1 : (a.toList != a.toList) = false := by simp
  have q2 : (pe != pe) = false := by simp
  have q3 : IntKind.i64.wrap pe = pe := by rw [IntWalk.i64_in _ (by omega)]
  clear hb hok hn hl hs hxs ha hpe hge hg1
  go_enter Try.func3, Try.ntmps3
  go_wp2_with fail
  refine C9.out.mono ?_
  rintro e w1 ⟨rfl, hb1⟩
  have B1 := Lib.hid hb1
  clear hb1 hm
  go_wp2_with fail
  refine (C10.out w1 B1.out).mono ?_
  rintro e w2 ⟨rfl, hb2⟩
  have B2 := Lib.hid (below_next B1.out B1.out.size hb2)
  clear hb2
  go_wp2_with fail
  refine (C11.out w2).mono ?_
  rintro e w3 ⟨v3, rfl, hr3, hb3⟩
  have B3 := Lib.hid (below_next B2.out B2.out.size hb3)
  obtain ⟨A3, c3, hv3⟩ := hr3.form
  have HR3 := Lib.hid hr3
  subst hv3
  clear hb3 hr3
  obtain ⟨l3, hl3⟩ : ∃ l, (gtR a).length = l := ⟨_, rfl⟩
  rw [hl3] at HR3 GL ⊢
  go_upto_region 7 with (fail)
  go_cut [53] (fun v53 wx => v53 = .bool false ∧ Below w.heap.size w wx)
  case first =>
    by_cases hp : pe = 0
    · obtain ⟨y1, y2⟩ := GP.out hp
      have p1 : (pe == 0) = true := by simp [hp]
      have p2 : (g1 != 0) = false := by simp [y1]
      have EQ := Lib.hid (eq_brs A3 A l3 n c3 c (gtR a) xs w3 _ _ _ _ HR3.out (HB.out.keep (Kept.of_below B3.out (Nat.le_refl _))) (Nat.le_refl _) B3.out.size (by have := GL.out; omega))
      have et : allB brB (gtR a) xs = true := by rw [y2]; exact (brsB_iff xs xs).2 rfl
      rw [et] at EQ
      clear hp y1 y2 et hl3
      go_wp2_with fail
      refine EQ.out.mono ?_
      rintro e w4 ⟨rfl, hb4⟩
      have B4 := Lib.hid (below_next B3.out B3.out.size hb4)
      clear hb4
      go_wp2_with fail
      go_meet
      exact ⟨rfl, B4.out⟩
    · have p1 : (pe == 0) = false := by simp [hp]
      clear hp
      go_wp2_with fail
      go_meet
      exact ⟨rfl, B3.out⟩
  case rest =>
    obtain ⟨rfl, hcut⟩ := hcut
    have B4 := Lib.hid hcut
    clear hcut
    go_wp2_with fail
    refine (D11.out wc).mono ?_
    rintro e w5 ⟨v5, rfl, hr5, hb5⟩
    obtain ⟨A5, c5, rfl⟩ := hr5.form
    have B5 := Lib.hid (below_next B4.out B4.out.size hb5)
    have HR5 := Lib.hid hr5
    clear hr5 hb5
    go_wp2_with fail
    refine (D13.out w5).mono ?_
    rintro e w6 ⟨v6, rfl, hr6, hb6⟩
    obtain ⟨A6, c6, rfl⟩ := hr6.form
    have B6 := Lib.hid (below_next B5.out B5.out.size hb6)
    have HR6 := Lib.hid hr6
    have HR5' := Lib.hid (HR5.out.keep (Kept.of_below hb6 (Nat.le_refl _)))
    have z65 := hb6.size
    clear hr6 hb6
    go_wp2_with fail
    refine (wakes_any w6).mono ?_
    rintro e w7 ⟨rfl, hb7⟩
    have B7 := Lib.hid (below_next B6.out B6.out.size hb7)
    have z7 := hb7.size
    have EQ := Lib.hid (eq_brs A5 A6 (gtR s).length (gtR s).length c5 c6 (gtR s) (gtR s) w7 _ _ _ _ (HR5'.out.keep (Kept.of_below hb7 (by omega))) (HR6.out.keep (Kept.of_below hb7 (Nat.le_refl _))) (by omega) z7 (by have := GS.out; omega))
    rw [show allB brB (gtR s) (gtR s) = true from (brsB_iff _ _).2 rfl] at EQ
    obtain ⟨l, hle⟩ : ∃ l, (gtR s).length = l := ⟨_, rfl⟩
    have gc' : (ge = 0 ∧ 1 ≤ l) ∨ (ge = 4 ∧ l = 0) := by
      rcases gc with ⟨h1, h2⟩ | ⟨h1, h2⟩
      · exact .inl ⟨h1, by omega⟩
      · exact .inr ⟨h1, by rw [← hle, h2]; rfl⟩
    rw [hle] at EQ ⊢
    clear hb7 hle gc
    go_wp2_with fail
    refine EQ.out.mono ?_
    rintro e w8 ⟨rfl, hb8⟩
    have B8 := Lib.hid (below_next B7.out B7.out.size hb8)
    clear hb8
    rcases gc' with ⟨rfl, h2⟩ | ⟨rfl, rfl⟩
    · have p1 : (0 : Int) < (l : Int) := by omega
      go_wp2_with fail
      go_ret
      exact ⟨rfl, B8.out⟩
    · go_wp2_with fail
      go_ret
      exact ⟨rfl, B8.out⟩

end Go.Proofs.Ytdldhfhhhjenkaa
