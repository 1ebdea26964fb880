/-
  The statement LockSigns, walked.
-/
import Derived.Test.YtdldhfhhhjenkaaPwalk
import Derived.Test.YtdldhfhhhjenkaaRsg
namespace Go.Proofs.Ytdldhfhhhjenkaa
open Go.RowKit

/-- The two branches that LockSigns asks for. -/
def pick2 (i j : Int) (k : Nat) : Int := if k = 0 then i else j
/-- A witness that is signed is told as it was. -/
theorem sg_signed {b t : Int} (hb : 0 ≤ b ∧ b ≤ 2) (ht : 0 ≤ t ∧ t ≤ 65535) : snB [sgS b t] = true ∧ snN [sgS b t] = b ∧ snT [sgS b t] = t ∧ snE [sgS b t] = 0 := by
  have hz : (sgS b t).size = 3 := by unfold sgS; rw [ByteArray.size_append, put_sz1, put_sz2]
  have hn : Oc.nums (sgS b t) = Oc.digs b 1 ++ Oc.digs t 2 := by unfold sgS; rw [nums_app, nums_put1, nums_put2]
  have g0 := get_of (s := sgS b t) (a := 0) (k := 1) (d := Oc.digs b 1) (l := Oc.digs t 2) (by decide) (Oc.digs_length 1 _) (by rw [List.drop_zero, hn])
  have g1 := get_of (s := sgS b t) (a := 1) (k := 2) (d := Oc.digs t 2) (l := []) (by decide) (Oc.digs_length 2 _) (by rw [hn, List.append_nil]; exact List.drop_left' (Oc.digs_length 1 _))
  rw [Oc.num_digs] at g0
  rw [num2 ht] at g1
  have g0' : Oc.getN (sgS b t) 0 1 = b := by
    have : Oc.getN (sgS b t) 0 1 = b % 256 ^ 1 := g0
    rw [this]
    omega
  have g1' : Oc.getN (sgS b t) 1 2 = t := g1
  have hB : snB [sgS b t] = true := by
    show decide ((sgS b t).size = 3 ∧ Oc.getN (sgS b t) 0 1 < 3) = true
    rw [g0', hz]
    simp
    omega
  refine ⟨hB, ?_, ?_, ?_⟩
  · show (if snB [sgS b t] = true then Oc.getN (sgS b t) 0 1 else 0) = b
    rw [if_pos hB, g0']
  · show (if snB [sgS b t] = true then Oc.getN (sgS b t) 1 2 else 0) = t
    rw [if_pos hB, g1']
  · unfold snE
    rw [if_pos hB]
theorem Strs.take {w : World} {lo hi : Nat} {A : Option Addr} {n c : Nat} {xs : List ByteArray} (h : Strs w lo hi (.slice A n c) xs) {p : Nat} (hp : p ≤ xs.length) : Strs w lo hi (.slice A p c) (xs.take p) := by
  obtain ⟨A', c', hv, hc, h⟩ := h
  injection hv with e1 _ e3
  subst e1 e3
  refine ⟨A, c, by rw [List.length_take, Nat.min_eq_left hp], by rw [List.length_take]; omega, ?_⟩
  rcases h with rfl | ⟨b, off, rfl, h1, h2, h⟩
  · exact .inl (by simp)
  · refine .inr ⟨b, off, rfl, h1, h2, fun k x hx => h k x ?_⟩
    rw [List.getElem?_take] at hx
    split at hx
    · exact hx
    · cases hx
theorem Strs.cap {w : World} {lo hi : Nat} {A : Option Addr} {n c : Nat} {xs : List ByteArray} (h : Strs w lo hi (.slice A n c) xs) : xs.length ≤ c := by
  obtain ⟨A', c', hv, hc, h⟩ := h
  injection hv with _ _ e3
  subst e3
  exact hc
theorem Strs.formS {w : World} {lo hi : Nat} {v : Value} {xs : List ByteArray} (h : Strs w lo hi v xs) : ∃ A c, v = .slice A xs.length c := by
  obtain ⟨A, c, rfl, _⟩ := h
  exact ⟨A, c, rfl⟩
theorem run_max0 (ts : Array TypeId) (t : TypeId) (x : Int) (w : World) : (Builtin.max_ ts t #[.int .i64 0, .int .i64 x]).run Try.prog w = .ok (.int .i64 (max 0 x)) w := by
  rw [run_max_int2 w ts t .i64 .i64 0 x]
  by_cases h : (0 : Int) < x
  · rw [if_pos h, Int.max_eq_right (by omega)]
  · rw [if_neg h, Int.max_eq_left (by omega)]

/-- Where LockSigns' loop stands: the branch in its box, the two numbers in their row. -/
structure SgS (w : World) (x : BrD) (i j : Int) (g : Nat) (wr : World) : Prop where
  bx : BrAt wr w.heap.size 0 x
  rw0 : wr.cell? ⟨g, 0, none⟩ = some (.int .i64 i)
  rw1 : wr.cell? ⟨g, 1, none⟩ = some (.int .i64 j)
  lt : w.heap.size < wr.heap.size ∧ g < wr.heap.size
  bel : Below w.heap.size w wr
theorem SgS.below {w : World} {x : BrD} {i j : Int} {g : Nat} {wr wx : World} (h : SgS w x i j g wr) (hb : Below wr.heap.size wr wx) : SgS w x i j g wx :=
  ⟨h.bx.keep (Nat.zero_le _) h.lt.1 (Kept.of_below hb (Nat.le_refl _)), (hb.cell (p := ⟨g, 0, none⟩) h.lt.2).trans h.rw0, (hb.cell (p := ⟨g, 1, none⟩) h.lt.2).trans h.rw1, ⟨Nat.lt_of_lt_of_le h.lt.1 hb.size, Nat.lt_of_lt_of_le h.lt.2 hb.size⟩, below_next h.bel h.bel.size hb⟩

set_option maxHeartbeats 4000000 in
set_option maxRecDepth 100000 in
theorem signs_law (i : Int) (x : BrD) (ls : List ByteArray) (v : Value) (w : World) (hi : -9223372036854775808 ≤ i ∧ i ≤ 9223372036854775807) (hx : x.Ok) (hl : Strs w 0 w.heap.size v ls) (hlm : ls.length ≤ maxLen) (hss : ∀ s ∈ ls, s.size ≤ maxLen) :
    Calls Try.prog 4 #[.int .i64 i, .agg #[.int .u16 x.tag, .int .u16 x.del, .int .u32 x.hgt], v] w fun e w' => e = .returned (.bool true) ∧ Below w.heap.size w w' := by
  obtain ⟨A, c, rfl⟩ := hl.formS
  obtain ⟨o1, o2, o3, o4, o5, o6⟩ := hx
  obtain ⟨j, hj, hj0, hj3⟩ : ∃ j : Int, (max 0 i).tmod 4 = j ∧ 0 ≤ j ∧ j ≤ 3 := ⟨_, rfl, by rw [Int.tmod_eq_emod_of_nonneg (by omega)]; omega, by rw [Int.tmod_eq_emod_of_nonneg (by omega)]; omega⟩
  have hmax : ∀ w, (Builtin.max_ #[3, 3] 3 #[.int .i64 0, .int .i64 i]).run Try.prog w = .ok (.int .i64 (max 0 i)) w := fun w => run_max0 #[3, 3] 3 i w
  obtain ⟨mx, hmx⟩ : ∃ m : Int, max 0 i = m := ⟨_, rfl⟩
  rw [hmx] at hmax hj
  have vj : IntKind.i64.wrap j = j := by rw [IntWalk.i64_in _ (by omega)]
  have n4 : ¬ (4 : Int) = 0 := by omega
  obtain ⟨w0, hw0⟩ : ∃ w0, w0 = (w.alloc (.cells #[.int .u16 x.tag, .int .u16 x.del, .int .u32 x.hgt] 34)).alloc (.cells #[.int .i64 i, .int .i64 j] 3) := ⟨_, rfl⟩
  have hbw : Below w.heap.size w w0 := by rw [hw0]; exact ((Below.refl _ _).alloc (Nat.le_refl _) _).alloc (by simp) _
  have zw : w0.heap.size = w.heap.size + 2 := by rw [hw0]; simp
  have S0 := Lib.hid (show SgS w x i j (w.heap.size + 1) w0 from by
    refine ⟨?_, ?_, ?_, ⟨by omega, by omega⟩, hbw⟩
    · rw [hw0]
      refine BrAt.keep (lo := 0) (hi := w.heap.size + 1) (w := w.alloc (.cells #[.int .u16 x.tag, .int .u16 x.del, .int .u32 x.hgt] 34)) ⟨by simp, by simp, by simp⟩ (Nat.zero_le _) (by omega) (Kept.alloc (by simp) _)
    · rw [hw0, show w.heap.size + 1 = (w.alloc (.cells #[.int .u16 x.tag, .int .u16 x.del, .int .u32 x.hgt] 34)).heap.size from by simp]; simp
    · rw [hw0, show w.heap.size + 1 = (w.alloc (.cells #[.int .u16 x.tag, .int .u16 x.del, .int .u32 x.hgt] 34)).heap.size from by simp]; simp)
  have HW0 := Lib.hid hw0
  have HL := Lib.hid hl
  have HSS := Lib.hid hss
  have HI := Lib.hid hi
  have HLM := Lib.hid hlm
  clear hw0 hbw hl hss hmx
  go_enter Try.func4, Try.ntmps4
  go_upto_region 2 with (fail)
  rw [show World.alloc (World.alloc w _) _ = w0 from HW0.out.symm]
  clear hmax HW0
  go_wp2_with fail
  go_loopg [8, 9, 10, 11, 12, 13, 26] 2 (fun gg _ _ _ _ _ _ s26 wr => ∃ k : Nat, k ≤ 2 ∧ 2 - k ≤ gg ∧ s26 = .int .i64 k ∧ Hid (SgS w x i j (w.heap.size + 1) wr))
  case atStart => exact ⟨0, by omega, by omega, rfl, S0⟩
  case round =>
    clear S0
    obtain ⟨k, hk, hg, rfl, SS⟩ := hrel
    obtain ⟨b0, b1, b2⟩ := SS.out.bx
    rw [Nat.zero_add] at b1 b2
    have hlt := SS.out.lt
    by_cases hlt2 : k < 2
    · have k1 : (k : Int) < 2 := by omega
      have k2 : decide ((k : Int) < 2) = true := decide_eq_true k1
      obtain ⟨n, hn⟩ : ∃ n, pick2 i j k = n := ⟨_, rfl⟩
      have cR : wr.cell? ⟨w.heap.size + 1, k, none⟩ = some (.int .i64 n) := by
        rw [← hn]
        rcases (show k = 0 ∨ k = 1 from by omega) with rfl | rfl
        · exact SS.out.rw0
        · exact SS.out.rw1
      have hnb : -9223372036854775808 ≤ n ∧ n ≤ 9223372036854775807 := by
        have := HI.out
        rw [← hn]
        unfold pick2
        split <;> omega
      clear hn
      have CSg := Lib.hid (sign_any n x.tag wr ⟨o1, o2⟩)
      go_wp2_with fail
      refine CSg.out.mono ?_
      rintro e w1 ⟨v1, rfl, hst, hb1⟩
      obtain ⟨A1, c1, rfl⟩ := hst.formS
      have S1 := Lib.hid (SS.out.below hb1)
      have HST := Lib.hid hst
      clear hst hb1 b0 b1 b2 cR CSg
      obtain ⟨b0, b1, b2⟩ := S1.out.bx
      rw [Nat.zero_add] at b1 b2
      by_cases hgd : 0 ≤ n ∧ n ≤ 2
      · have e0 : sgE n = 0 := by unfold sgE; rw [if_neg (by omega)]
        have eL : sgL n x.tag = [sgS n x.tag] := by unfold sgL; rw [if_pos e0]
        obtain ⟨t1, t2, t3, t4⟩ := sg_signed hgd ⟨o1, o2⟩
        rw [eL] at HST ⊢
        rw [e0]
        have h1 := hgd.1
        have h2 := hgd.2
        have CS := Lib.hid (signed_any [sgS n x.tag] _ w1 _ _ HST.out (by intro s hs; simp at hs; subst hs; unfold maxLen sgS; rw [ByteArray.size_append, put_sz1, put_sz2]; omega) (by show 1 ≤ maxLen; decide))
        rw [t2, t3, t4] at CS
        have CR := Lib.hid (rsign_any n x.tag w1 hgd ⟨o1, o2⟩)
        have q1 : (n != n) = false := by simp
        have q2 : (x.tag != x.tag) = false := by simp
        generalize sgS n x.tag = sg at HST CS CR
        simp only [List.length_cons, List.length_nil, Nat.zero_add] at HST CS ⊢
        clear e0 eL t1 t2 t3 t4 hgd
        go_wp2_with fail
        refine CS.out.mono ?_
        rintro e wz ⟨rfl, rfl⟩
        go_wp2_with fail
        refine CR.out.mono ?_
        rintro e w2 ⟨v2, rfl, hs2, hb2⟩
        obtain ⟨A2, c2, rfl⟩ := hs2.formS
        have S2 := Lib.hid (S1.out.below hb2)
        have EQ := Lib.hid (eq_strs A1 A2 1 1 c1 c2 [sg] [sg] w2 _ _ _ _ (HST.out.keep (Kept.of_below hb2 (Nat.le_refl _))) hs2 hb2.size (Nat.le_refl _) (by show 1 ≤ 512; decide))
        rw [show strsB [sg] [sg] = true from allB_refl (fun y => by simp [strB]) _] at EQ
        simp only [List.length_cons, List.length_nil, Nat.zero_add]
        clear hs2 hb2 b0 b1 b2
        obtain ⟨b0, b1, b2⟩ := S2.out.bx
        rw [Nat.zero_add] at b1 b2
        go_wp2_with fail
        refine EQ.out.mono ?_
        rintro e w3 ⟨rfl, hb3⟩
        have S3 := Lib.hid (S2.out.below hb3)
        clear hb3 b0 b1 b2
        obtain ⟨b0, b1, b2⟩ := S3.out.bx
        rw [Nat.zero_add] at b1 b2
        go_wp2_with fail
        go_roundg (2 - (k + 1))
        case measure => omega
        case rel => exact ⟨k + 1, by omega, by omega, by go_num, S3⟩
      · have e0 : sgE n = 2 := by unfold sgE; rw [if_pos (by omega)]
        have eL : sgL n x.tag = [] := by unfold sgL; rw [e0, if_neg (by decide)]
        rw [eL] at HST ⊢
        rw [e0]
        have CS := Lib.hid (signed_any [] _ w1 _ _ HST.out (by simp) (by decide))
        rw [show snN [] = 0 from rfl, show snT [] = 0 from rfl, show snE [] = 4 from rfl] at CS
        simp only [List.length_nil] at HST CS ⊢
        clear e0 eL
        by_cases h1 : 0 ≤ n
        · have h2 : ¬ n ≤ 2 := by omega
          clear hgd
          go_wp2_with fail
          refine CS.out.mono ?_
          rintro e wz ⟨rfl, rfl⟩
          go_wp2_with fail
          go_roundg (2 - (k + 1))
          case measure => omega
          case rel => exact ⟨k + 1, by omega, by omega, by go_num, S1⟩
        · clear hgd
          go_wp2_with fail
          refine CS.out.mono ?_
          rintro e wz ⟨rfl, rfl⟩
          go_wp2_with fail
          go_roundg (2 - (k + 1))
          case measure => omega
          case rel => exact ⟨k + 1, by omega, by omega, by go_num, S1⟩
    · have k1 : ¬ (k : Int) < 2 := by omega
      obtain ⟨w6, hw6⟩ : ∃ w6, w6 = wr := ⟨_, rfl⟩
      subst hw6
      obtain ⟨n, hn⟩ : ∃ n, min ls.length 3 = n := ⟨_, rfl⟩
      have hmin : ∀ w, (Builtin.min_ #[3, 3] 3 #[.int .i64 (ls.length : Int), .int .i64 3]).run Try.prog w = .ok (.int .i64 (n : Nat)) w := by rw [← hn]; exact fun w => run_min_nat 3 #[3, 3] 3 ls.length w
      have hcap := HL.out.cap
      have n1 : n ≤ c := by omega
      have n2 : (n : Int) ≤ (c : Int) := by omega
      have n3 : (0 : Int) ≤ (n : Int) := by omega
      have hl' : ls.length ≤ 9223372036854775807 := by have := HLM.out; unfold maxLen at this; omega
      obtain ⟨ws, hws⟩ : ∃ ws, ls.take n = ws := ⟨_, rfl⟩
      have hwl : ws.length ≤ 3 := by rw [← hws, List.length_take]; omega
      have HW := Lib.hid (show Strs w6 0 w.heap.size (.slice A n c) ws from by rw [← hws]; exact (HL.out.take (by omega)).keep (Kept.of_below SS.out.bel (Nat.le_refl _)))
      have CS := Lib.hid (signed_any ws _ w6 _ _ HW.out (by rw [← hws]; exact fun s hs => HSS.out s (List.mem_of_mem_take hs)) (by unfold maxLen; omega))
      have CR := Lib.hid (rsigned_any ws _ w6 _ _ HW.out (by unfold maxLen; omega))
      have CQ := Lib.hid (fun W => seq_any x W ⟨o3, o4⟩)
      have sb := snN_bd ws
      have tb := snT_bd ws
      have ER := Lib.hid (show (snB ws = true → rsN ws = snN ws ∧ snE ws = 0) ∧ (snB ws = false → rsN ws = -1 ∧ snE ws = 4 ∧ snN ws = 0 ∧ snT ws = 0) from ⟨fun h => ⟨by unfold rsN; rw [if_pos h], by unfold snE; rw [if_pos h]⟩, fun h => ⟨by unfold rsN; rw [if_neg (by rw [h]; decide)], (sn_not h).1, (sn_not h).2.1, (sn_not h).2.2⟩⟩)
      generalize snN ws = sn at CS sb ER
      generalize snT ws = st at CS CR tb ER
      generalize snE ws = se at CS ER
      generalize rsN ws = rs at CR ER
      have ESQ := Lib.hid (show sqN x = if 0 < x.del then x.del else 4294967293 from rfl)
      generalize sqN x = sq at CQ ESQ
      have vt : IntKind.i64.wrap st = st := by rw [IntWalk.i64_in _ (by omega)]
      have vd : IntKind.u32.wrap x.del = x.del := by rw [IntWalk.u32_in _ (by omega)]
      clear hn hws HL HSS HI HLM
      go_wp2_with fail
      refine CS.out.mono ?_
      rintro e wz ⟨rfl, rfl⟩
      clear hmin
      go_wp2_with fail
      refine CR.out.mono ?_
      rintro e w7 ⟨rfl, hb7⟩
      have S7 := Lib.hid (SS.out.below hb7)
      clear hb7 b0 b1 b2
      obtain ⟨b0, b1, b2⟩ := S7.out.bx
      rw [Nat.zero_add] at b1 b2
      cases hsn : snB ws with
      | false =>
        obtain ⟨rfl, rfl, rfl, rfl⟩ := ER.out.2 hsn
        clear hsn ER
        go_wp2_with fail
        refine (wakes_any w7).mono ?_
        rintro e w8 ⟨rfl, hb8⟩
        have S8 := Lib.hid (S7.out.below hb8)
        clear hb8
        go_wp2_with fail
        go_ret
        exact ⟨rfl, S8.out.bel⟩
      | true =>
        obtain ⟨rfl, rfl⟩ := ER.out.1 hsn
        have r0 : ¬ rs < 0 := by omega
        have q1 : (rs == rs) = true := by simp
        have q2 : (st == st) = true := by simp
        clear hsn ER
        by_cases hd : 0 < x.del
        · have q3 : (sq == x.del) = true := by rw [ESQ.out, if_pos hd]; simp
          go_wp2_with fail
          refine (wakes_any w7).mono ?_
          rintro e w8 ⟨rfl, hb8⟩
          have S8 := Lib.hid (S7.out.below hb8)
          clear hb8 b0 b1 b2
          obtain ⟨b0, b1, b2⟩ := S8.out.bx
          rw [Nat.zero_add] at b1 b2
          go_wp2_with fail
          refine (CQ.out w8).mono ?_
          rintro e w9 ⟨rfl, hb9⟩
          have S9 := Lib.hid (S8.out.below hb9)
          clear hb9
          go_wp2_with fail
          go_ret
          exact ⟨rfl, S9.out.bel⟩
        · have q3 : (sq == 4294967293) = true := by rw [ESQ.out, if_neg hd]; simp
          go_wp2_with fail
          refine (wakes_any w7).mono ?_
          rintro e w8 ⟨rfl, hb8⟩
          have S8 := Lib.hid (S7.out.below hb8)
          clear hb8 b0 b1 b2
          obtain ⟨b0, b1, b2⟩ := S8.out.bx
          rw [Nat.zero_add] at b1 b2
          go_wp2_with fail
          refine (CQ.out w8).mono ?_
          rintro e w9 ⟨rfl, hb9⟩
          have S9 := Lib.hid (S8.out.below hb9)
          clear hb9
          go_wp2_with fail
          go_ret
          exact ⟨rfl, S9.out.bel⟩

end Go.Proofs.Ytdldhfhhhjenkaa
