/-
  The document's Take: a coin out of a list.
-/
import Derived.Test.YtdchbeomlfancaaRfd
import Derived.Test.YtdchbeomlfancaaTake
namespace Go.Proofs.Ytdchbeomlfancaa
open Go.RowKit

theorem era_step {xs : List EnD} {k kk : Nat} {x : EnD} (h : xs[kk]? = some x) : (xs.take (kk + 1)).eraseIdx k = if kk = k then (xs.take kk).eraseIdx k else (xs.take kk).eraseIdx k ++ [x] := by
  have hlt := (List.getElem?_eq_some_iff.1 h).1
  have e : xs.take (kk + 1) = xs.take kk ++ [x] := by rw [List.take_add_one, h]; rfl
  rw [e]
  split
  · rename_i h1
    subst h1
    rw [List.eraseIdx_append_of_length_le (by simp; omega), List.eraseIdx_of_length_le (l := xs.take kk) (by simp; omega)]
    simp [Nat.min_eq_left (Nat.le_of_lt hlt)]
  · rename_i h1
    rcases Nat.lt_or_gt_of_ne h1 with h2 | h2
    · rw [List.eraseIdx_of_length_le (by simp; omega), List.eraseIdx_of_length_le (by simp; omega)]
    · rw [List.eraseIdx_append_of_lt_length (by simp; omega)]

/-- A list that is being built, and what lies beside. -/
structure Row (w : World) (v : Value) (ys : List EnD) (wr : World) : Prop where
  own : wr.ownsRow w.heap.size 45 5 v ys.length (cellsE ys)
  bel : Below w.heap.size w wr
theorem Row.nil (w : World) : Row w (.slice none 0 0) [] w := ⟨World.ownsRow_nil w w.heap.size 45 5, Below.refl _ _⟩
theorem Row.below {w wr w' : World} {v : Value} {ys : List EnD} (h : Row w v ys wr) (hb : Below wr.heap.size wr w') : Row w v ys w' :=
  ⟨((OwnAt.of_own h.own).keep (StayE.of_below hb (Nat.le_refl _)) hb.size).1, h.bel.trans (hb.mono h.bel.size)⟩
theorem Row.ents {w wr : World} {v : Value} {ys : List EnD} (h : Row w v ys wr) : Ents wr w.heap.size wr.heap.size v ys := (OwnAt.of_own h.own).ents
theorem Row.push {w wr w9 : World} {v : Value} {ys : List EnD} {x : EnD} {o : Obj} {g cap : Nat} (h : Row w v ys wr) (hg : (wr.alloc o).grownBy w9 v.ownBlock)
    (hown : w9.ownsRow w.heap.size 45 5 (.slice (some ⟨g, 0, none⟩) (ys.length + 1) cap) (ys.length + 1) (cellsE ys ++ encE x)) : Row w (.slice (some ⟨g, 0, none⟩) (ys.length + 1) cap) (ys ++ [x]) w9 := by
  refine ⟨by rw [cellsE_snoc, List.length_append]; exact hown, ?_⟩
  have hs := h.bel.size
  refine (h.bel.alloc h.bel.size o).trans ⟨hg.os, hg.tape, hg.output, hg.size, fun k hk => hg.block k (by simp; omega) ?_⟩
  intro he
  have := (h.own.lt k he.symm).1
  omega

theorem setCo_other (w : World) {n k : Nat} (h : k ≠ n) (v : Int) (s : ByteArray) (t : Int) : (setCo w n v s t).heap[k]? = w.heap[k]? := by
  unfold setCo
  exact (Below.heap_setCell _ ⟨n, 2, none⟩ _ k (by exact h)).trans ((Below.heap_setCell _ ⟨n, 1, none⟩ _ k (by exact h)).trans (Below.heap_setCell _ ⟨n, 0, none⟩ _ k (by exact h)))

set_option maxHeartbeats 2000000 in
theorem rtake_any (A : Option Addr) (n c : Nat) (xs : List EnD) (p : ByteArray) (i : Int) (w : World) (lo hi : Nat) (hx : Ents w lo hi (.slice A n c) xs) (hhi : hi ≤ w.heap.size) (hg : Good xs) (hl : xs.length ≤ 1000) :
    Calls Try.prog 10 #[.slice A n c, .agg #[.string p, .int .u32 i]] w fun e w' => ∃ v', e = .returned (.tuple #[v', .agg #[.int .i64 (atE xs p i).val, .string (atE xs p i).scr, .int .i64 (atE xs p i).ht], .int .i64 (takeE xs p i)]) ∧ Ents w' lo w'.heap.size v' (delL xs p i) ∧ Below w.heap.size w w' := by
  obtain rfl : n = xs.length := by obtain ⟨_, _, hv, _⟩ := hx; injection hv
  obtain ⟨w1, hw1⟩ : ∃ w1, w1 = w.alloc (.cells #[.string p, .int .u32 i] 28) := ⟨_, rfl⟩
  have hz1 : w1.heap.size = w.heap.size + 1 := by rw [hw1]; simp
  have hb1 : Below w.heap.size w w1 := by rw [hw1]; exact (Below.refl _ _).alloc (Nat.le_refl _) _
  obtain ⟨W, hW⟩ : ∃ W, W = w1.alloc (.cells #[.int .i64 0, .string ⟨#[]⟩, .int .i64 0] 35) := ⟨_, rfl⟩
  have hz : W.heap.size = w.heap.size + 2 := by rw [hW]; simp [hz1]
  have hBW : Below w.heap.size w W := by rw [hW]; exact hb1.alloc (by omega) _
  have h28 : W.heap[w.heap.size]? = some (.cells #[.string p, .int .u32 i] 28) := by rw [hW, Below.heap_alloc _ _ _ (by omega), hw1]; exact heap_alloc_new _ _
  have p0 : W.cell? ⟨w.heap.size, 0, none⟩ = some (.string p) := cell_in (o := 0) h28 rfl
  have p1 : W.cell? ⟨w.heap.size, 1, none⟩ = some (.int .u32 i) := cell_in (o := 1) h28 rfl
  have C3 := Lib.hid (show Co3 W (w.heap.size + 1) from by rw [hW, ← hz1]; exact Co3.new _ _ _ _)
  have hxW := hx.keep (Kept.of_below hBW hhi)
  have CF := Lib.hid (rfind_any A xs.length c xs p i W lo hi hxW (by omega) hl)
  have HX := Lib.hid hxW
  have HG := Lib.hid hg
  have HB := Lib.hid hBW
  have HW := Lib.hid (show W = (w.alloc (.cells #[.string p, .int .u32 i] 28)).alloc (.cells #[.int .i64 0, .string ⟨#[]⟩, .int .i64 0] 35) from by rw [hW, hw1])
  obtain ⟨i45, hi45, y0, y1, y2⟩ := info_parts' info45
  have HT : Hid (takeE xs p i = if hasB xs p i = true then 0 else 8) := Lib.hid rfl
  clear hx hg hb1 hw1 hBW hW h28 hxW
  cases hh : hasB xs p i with
  | false =>
    rw [idx_none hh] at CF
    have hy := atE_none hh
    rw [hy]
    have HH := Lib.hid hh
    clear hh hy
    go_enter Try.func10, Try.ntmps10
    go_upto_region 1 with (fail)
    rw [show World.alloc (World.alloc w _) _ = W from HW.out.symm]
    go_wp2_with fail
    refine CF.out.mono ?_
    rintro e w3 ⟨rfl, hb3⟩
    have D3 := C3.out.keep (hb3.block _ (by omega)) hb3.size
    obtain ⟨_, z0⟩ := D3.z0
    obtain ⟨_, z1⟩ := D3.z1
    obtain ⟨_, z2⟩ := D3.z2
    have zf := D3.fr
    have HB3 := Lib.hid hb3
    clear hb3 D3 p0 p1
    go_wp2_with fail
    obtain ⟨W3, hW3⟩ : ∃ W3, W3 = setCo w3 (w.heap.size + 1) 0 ⟨#[]⟩ 0 := ⟨_, rfl⟩
    obtain ⟨q0, q1, q2⟩ := setCo_cells z0 z1 z2 0 ⟨#[]⟩ 0
    have N3 := Lib.hid (setCo_below (Below.refl (w.heap.size + 1) w3) (Nat.le_refl _) 0 ⟨#[]⟩ 0)
    unfold setCo at hW3 q0 q1 q2 N3
    rw [← hW3] at q0 q1 q2 N3 ⊢
    refine bodyPost_ret (v := .tuple #[.slice A xs.length c, .agg #[.int .i64 0, .string ⟨#[]⟩, .int .i64 0], .int .i64 8]) (by simp [results, Try.results10, go_sem, q0, q1, q2]) rfl ?_
    have s3 := HB3.out.size
    have sn := N3.out.size
    refine ⟨_, by rw [HT.out, HH.out]; rfl, ?_, ?_⟩
    · rw [del_none HH.out]
      exact ((HX.out.keep (Kept.of_below HB3.out (by omega))).keep (Kept.of_below N3.out (by omega))).wide (Nat.le_refl _) (by omega)
    · exact (HB.out.trans (HB3.out.mono (by omega))).trans (N3.out.mono (by omega))
  | true =>
    obtain ⟨k, hk1, hk2, hk3⟩ := idx_some HG.out.srt hh
    rw [hk1] at CF
    rw [hk3]
    obtain ⟨y, hy⟩ : ∃ y, y = atE xs p i := ⟨_, rfl⟩
    rw [← hy] at hk2 ⊢
    have HK2 := Lib.hid hk2
    have HH := Lib.hid hh
    have kl : k < xs.length := (List.getElem?_eq_some_iff.1 hk2).1
    have k0 : ¬ (k : Int) < 0 := by omega
    obtain ⟨yi, yx, yv, ys, yt⟩ := y
    simp only
    clear hh hk1 hk2 hk3 hy
    go_enter Try.func10, Try.ntmps10
    go_upto_region 1 with (fail)
    rw [show World.alloc (World.alloc w _) _ = W from HW.out.symm]
    go_wp2_with fail
    refine CF.out.mono ?_
    rintro e w3 ⟨rfl, hb3⟩
    have HB3 := Lib.hid hb3
    have z3 := hb3.size
    clear hb3 p0 p1
    go_wp2_with fail
    go_loopg [8, 9] xs.length (fun gg v s9 wr => ∃ (kk : Nat) (ys : List EnD), kk ≤ xs.length ∧ xs.length - kk ≤ gg ∧ s9 = .int .i64 kk ∧ ys.length ≤ kk ∧ Hid (ys = (xs.take kk).eraseIdx k) ∧ w3.heap.size ≤ wr.heap.size ∧ Hid (Row w3 v ys wr))
    case atStart => exact ⟨0, [], Nat.zero_le _, by omega, rfl, Nat.zero_le _, Lib.hid (by simp), Nat.le_refl _, Row.nil w3⟩
    case round =>
      obtain ⟨kk, zs, hkk, hgg, rfl, hzl, HZ, hzr, HR⟩ := hrel
      obtain ⟨B, d, hv⟩ := own_form HR.out.own
      subst hv
      by_cases hlt : kk < xs.length
      · have hltz : (kk : Int) < (xs.length : Int) := by omega
        have hd : decide (kk < xs.length) = true := decide_eq_true hlt
        obtain ⟨x, hxk⟩ : ∃ x, xs[kk]? = some x := ⟨_, List.getElem?_eq_getElem hlt⟩
        have HS := Lib.hid (era_step (k := k) hxk)
        by_cases hkk2 : kk = k
        · have t1 : ((kk : Int) != (k : Int)) = false := by rw [hkk2]; simp
          have HQ := Lib.hid hkk2
          clear hkk2
          go_wp2_with fail
          go_roundg (xs.length - (kk + 1))
          case measure => omega
          case rel => exact ⟨kk + 1, zs, by omega, by omega, by go_num, by omega, Lib.hid (by rw [HS.out, if_pos HQ.out]; exact HZ.out), hzr, HR⟩
        · have t1 : ((kk : Int) != (k : Int)) = true := by rw [bne_iff_ne]; omega
          have HQ := Lib.hid hkk2
          obtain ⟨b, off, rfl, h1, h2, c0, c1, c2, c3, c4⟩ := ((HX.out.keep (Kept.of_below HB3.out (by omega))).keep (Kept.of_below HR.out.bel (by omega))).at hxk
          obtain ⟨m, hm⟩ : ∃ m, m = zs.length := ⟨_, rfl⟩
          have HM := Lib.hid hm
          have HOW := Lib.hid HR.out.own
          rw [← hm] at HOW ⊢
          have hbytes : (m + 1) * 56 ≤ 140737488355328 := by omega
          have hmax : m + 1 ≤ maxLen := by unfold maxLen; omega
          have hbw : b < wr.heap.size := by omega
          clear hkk2 hm hxk
          go_wp2_with (at_builtin; refine wpList_append_lies _ rfl _ _ 25 rfl w3.heap.size 45 i45 _ 5 56 Try.underlying25 hi45 y0 y1 y2 rfl (by decide) _ _ _ rfl (HOW.out.alloc _) ⟨wr.heap.size, 0, none⟩ 1 1 (encE x) rfl rfl (five_new _ _ _ _ rfl) (encE_one x) (by decide) hmax hbytes (by simp; omega) _ rfl ?_; intro g' cap' w9 hown' hgrow hat hlt')
          go_roundg (xs.length - (kk + 1))
          case measure => omega
          case rel =>
            have hm := HM.out
            subst hm
            have RR := HR.out.push (x := x) hgrow hown'
            have := RR.bel.size
            refine ⟨kk + 1, zs ++ [x], by omega, by omega, by go_num, by simp; omega, Lib.hid (by rw [HS.out, if_neg HQ.out, HZ.out]), by omega, Lib.hid RR⟩
      · have hltz : ¬ (kk : Int) < (xs.length : Int) := by omega
        have hd : decide (kk < xs.length) = false := decide_eq_false hlt
        obtain rfl : kk = xs.length := by omega
        have HZ' := Lib.hid (show zs = xs.eraseIdx k from by rw [HZ.out, List.take_length])
        have HXr := (HX.out.keep (Kept.of_below HB3.out (by omega))).keep (Kept.of_below HR.out.bel (by omega))
        obtain ⟨b, off, rfl, h1, h2, c0, c1, c2, c3, c4⟩ := HXr.at HK2.out
        have hkz : (k : Int) < (xs.length : Int) := by omega
        have D3 := (C3.out.keep (HB3.out.block _ (by omega)) HB3.out.size).keep (HR.out.bel.block _ (by omega)) HR.out.bel.size
        obtain ⟨u0, z0⟩ := D3.z0
        obtain ⟨u1, z1⟩ := D3.z1
        obtain ⟨u2, z2⟩ := D3.z2
        have zf := D3.fr
        have hbw : b < wr.heap.size := by omega
        simp only at c2 c3 c4
        clear HXr D3
        go_wp2_with fail
        go_region
        obtain ⟨q0, q1, q2⟩ := setCo_cells z0 z1 z2 yv ys yt
        have N5 := Lib.hid (setCo_below (Below.refl (w.heap.size + 1) wr) (Nat.le_refl _) yv ys yt).drew
        obtain ⟨W5, hW5⟩ : ∃ W5, W5 = (setCo wr (w.heap.size + 1) yv ys yt).drew := ⟨_, rfl⟩
        have x0 : W5.cell? ⟨w.heap.size + 1, 0, none⟩ = some (.int .i64 yv) := by rw [hW5]; exact q0
        have x1 : W5.cell? ⟨w.heap.size + 1, 1, none⟩ = some (.string ys) := by rw [hW5]; exact q1
        have x2 : W5.cell? ⟨w.heap.size + 1, 2, none⟩ = some (.int .i64 yt) := by rw [hW5]; exact q2
        rw [← hW5] at N5
        have O5 := Lib.hid (show ∀ k, k ≠ w.heap.size + 1 → W5.heap[k]? = wr.heap[k]? from fun k hk => by rw [hW5]; exact setCo_other wr hk yv ys yt)
        unfold setCo at hW5
        rw [← hW5]
        clear q0 q1 q2 z0 z1 z2 zf c0 c1 c2 c3 c4 hW5
        go_wp2_with fail
        refine bodyPost_ret (v := .tuple #[.slice B zs.length d, .agg #[.int .i64 yv, .string ys, .int .i64 yt], .int .i64 0]) (by simp [results, Try.results10, go_sem, x0, x1, x2]) rfl ?_
        refine ⟨_, by rw [HT.out, HH.out]; rfl, ?_, ?_⟩
        · rw [← HZ'.out]
          have hs := N5.out.size
          refine (Ents.keep HR.out.ents (fun b' hb1 hb2 => ?_)).wide (by omega) (by omega)
          exact O5.out b' (by omega)
        · exact ((HB.out.trans (HB3.out.mono (by omega))).trans (HR.out.bel.mono (by omega))).trans (N5.out.mono (by omega))

end Go.Proofs.Ytdchbeomlfancaa
