/-
  The document's Take: a coin out of a list.
  The document's Put: a coin into a list.
-/
import Derived.Test.YtnmfjnfdnjjngaaGreatDoorMAll
import Derived.Test.YtnmfjnfdnjjngaaGreatDoorMEqs
import Derived.Deep.CutBlock

namespace Go.Proofs.YtnmfjnfdnjjngaaGreatDoor.Co
open Go.RowKit
set_option maxRecDepth 100000

theorem era_step {xs : List EnD} {k kk : Nat} {x : EnD} (h : xs[kk]? = some x) : (xs.take (kk + 1)).eraseIdx k = if kk = k then (xs.take kk).eraseIdx k else (xs.take kk).eraseIdx k ++ [x] := by
  have hlt := (List.getElem?_eq_some_iff.1 h).1
  have e : xs.take (kk + 1) = xs.take kk ++ [x] := by rw [List.take_add_one, h]; rfl
  rw [e]
  split
  · rename_i h1
    subst h1
    rw [List.eraseIdx_append_of_length_le (by simp; omega), List.eraseIdx_of_length_le (l := xs.take kk) (by simp; omega)]
    simp [Nat.min_eq_left (Nat.le_of_lt hlt)]
  · rename_i h1
    rcases Nat.lt_or_gt_of_ne h1 with h2 | h2
    · rw [List.eraseIdx_of_length_le (by simp; omega), List.eraseIdx_of_length_le (by simp; omega)]
    · rw [List.eraseIdx_append_of_lt_length (by simp; omega)]

/-- A list that is being built, and what lies beside. -/
structure Row (w : World) (v : Value) (ys : List EnD) (wr : World) : Prop where
  own : wr.ownsRow w.heap.size 98 5 v ys.length (cellsE ys)
  bel : Below w.heap.size w wr
theorem Row.nil (w : World) : Row w (.slice none 0 0) [] w := ⟨World.ownsRow_nil w w.heap.size 98 5, Below.refl _ _⟩
theorem Row.below {w wr w' : World} {v : Value} {ys : List EnD} (h : Row w v ys wr) (hb : Below wr.heap.size wr w') : Row w v ys w' :=
  ⟨((OwnAt.of_own h.own).keep (StayE.of_below hb (Nat.le_refl _)) hb.size).1, h.bel.trans (hb.mono h.bel.size)⟩
theorem Row.ents {w wr : World} {v : Value} {ys : List EnD} (h : Row w v ys wr) : Ents wr w.heap.size wr.heap.size v ys := (OwnAt.of_own h.own).ents
theorem Row.push {w wr w9 : World} {v : Value} {ys : List EnD} {x : EnD} {o : Obj} {g cap : Nat} (h : Row w v ys wr) (hg : (wr.alloc o).grownBy w9 v.ownBlock)
    (hown : w9.ownsRow w.heap.size 98 5 (.slice (some ⟨g, 0, none⟩) (ys.length + 1) cap) (ys.length + 1) (cellsE ys ++ encE x)) : Row w (.slice (some ⟨g, 0, none⟩) (ys.length + 1) cap) (ys ++ [x]) w9 := by
  refine ⟨by rw [cellsE_snoc, List.length_append]; exact hown, ?_⟩
  have hs := h.bel.size
  refine (h.bel.alloc h.bel.size o).trans ⟨hg.os, hg.tape, hg.output, hg.size, fun k hk => hg.block k (by simp; omega) ?_⟩
  intro he
  have := (h.own.lt k he.symm).1
  omega

theorem setCo_other (w : World) {n k : Nat} (h : k ≠ n) (v : Int) (s : ByteArray) (t : Int) : (setCo w n v s t).heap[k]? = w.heap[k]? := by
  unfold setCo
  exact (Below.heap_setCell _ ⟨n, 2, none⟩ _ k (by exact h)).trans ((Below.heap_setCell _ ⟨n, 1, none⟩ _ k (by exact h)).trans (Below.heap_setCell _ ⟨n, 0, none⟩ _ k (by exact h)))

/-- The slice v that was handed in, or one whose memory lies from B on. -/
def Prov (v : Value) (B : Nat) (u : Value) : Prop := u = v ∨ ∀ a n c, u = .slice (some a) n c → B ≤ a.block
theorem Prov.own {w : World} {B base : Nat} {e : TypeId} {size n : Nat} {v u : Value} {xs : List Value} (h : w.ownsRow base e size u n xs) (hb : B ≤ base) : Prov v B u := by
  refine .inr fun a n c hu => ?_
  rcases h.2 with ⟨h0, _⟩ | ⟨g, cap, cur, h0, hg, _⟩
  · rw [h0] at hu
    cases hu
  · rw [h0] at hu
    injection hu with h1
    injection h1 with h1
    subst h1
    show B ≤ g
    omega
theorem Prov.next {v u t : Value} {B C : Nat} (h : Prov v B u) (k : Prov u C t) (hc : B ≤ C) : Prov v B t := by
  rcases k with rfl | k
  · exact h
  · exact .inr fun a n c e => Nat.le_trans hc (k a n c e)
theorem Prov.mono {v u : Value} {B C : Nat} (h : Prov v B u) (hc : C ≤ B) : Prov v C u := by
  rcases h with h | h
  · exact .inl h
  · exact .inr fun a n c e => Nat.le_trans hc (h a n c e)

set_option maxHeartbeats 2000000 in
theorem rtake_any (A : Option Addr) (n c : Nat) (xs : List EnD) (p : ByteArray) (i : Int) (w : World) (lo hi : Nat) (hx : Ents w lo hi (.slice A n c) xs) (hhi : hi ≤ w.heap.size) (hg : Good xs) (hl : xs.length ≤ 1000) :
    Calls Tryz.prog 54 #[.slice A n c, .agg #[.string p, .int .u32 i]] w fun e w' => ∃ v', e = .returned (.tuple #[v', .agg #[.int .i64 (atE xs p i).val, .string (atE xs p i).scr, .int .i64 (atE xs p i).ht], .int .i64 (takeE xs p i)]) ∧ Ents w' lo w'.heap.size v' (delL xs p i) ∧ Below w.heap.size w w' ∧ Prov (.slice A n c) w.heap.size v' := by
  obtain rfl : n = xs.length := by obtain ⟨_, _, hv, _⟩ := hx; injection hv
  obtain ⟨w1, hw1⟩ : ∃ w1, w1 = w.alloc (.cells #[.string p, .int .u32 i] 60) := ⟨_, rfl⟩
  have hz1 : w1.heap.size = w.heap.size + 1 := by rw [hw1]; simp
  have hb1 : Below w.heap.size w w1 := by rw [hw1]; exact (Below.refl _ _).alloc (Nat.le_refl _) _
  obtain ⟨W, hW⟩ : ∃ W, W = w1.alloc (.cells #[.int .i64 0, .string ⟨#[]⟩, .int .i64 0] 64) := ⟨_, rfl⟩
  have hz : W.heap.size = w.heap.size + 2 := by rw [hW]; simp [hz1]
  have hBW : Below w.heap.size w W := by rw [hW]; exact hb1.alloc (by omega) _
  have h28 : W.heap[w.heap.size]? = some (.cells #[.string p, .int .u32 i] 60) := by rw [hW, Below.heap_alloc _ _ _ (by omega), hw1]; exact heap_alloc_new _ _
  have p0 : W.cell? ⟨w.heap.size, 0, none⟩ = some (.string p) := cell_in (o := 0) h28 rfl
  have p1 : W.cell? ⟨w.heap.size, 1, none⟩ = some (.int .u32 i) := cell_in (o := 1) h28 rfl
  have C3 := Lib.hid (show Co3 W (w.heap.size + 1) from by rw [hW, ← hz1]; exact Co3.new _ _ _ _)
  have hxW := hx.keep (Kept.of_below hBW hhi)
  have CF := Lib.hid (rfind_any A xs.length c xs p i W lo hi hxW (by omega) hl)
  have HX := Lib.hid hxW
  have HG := Lib.hid hg
  have HB := Lib.hid hBW
  have HW := Lib.hid (show W = (w.alloc (.cells #[.string p, .int .u32 i] 60)).alloc (.cells #[.int .i64 0, .string ⟨#[]⟩, .int .i64 0] 64) from by rw [hW, hw1])
  obtain ⟨i45, hi45, y0, y1, y2⟩ := info_parts' info45
  have HT : Hid (takeE xs p i = if hasB xs p i = true then 0 else 8) := Lib.hid rfl
  clear hx hg hb1 hw1 hBW hW h28 hxW
  cases hh : hasB xs p i with
  | false =>
    rw [idx_none hh] at CF
    have hy := atE_none hh
    rw [hy]
    have HH := Lib.hid hh
    clear hh hy
    go_enter Tryz.func54, Tryz.ntmps54
    go_upto_region 1 with (fail)
    rw [show World.alloc (World.alloc w _) _ = W from HW.out.symm]
    go_wp2_with fail
    refine CF.out.mono ?_
    rintro e w3 ⟨rfl, hb3⟩
    have D3 := C3.out.keep (hb3.block _ (by omega)) hb3.size
    obtain ⟨_, z0⟩ := D3.z0
    obtain ⟨_, z1⟩ := D3.z1
    obtain ⟨_, z2⟩ := D3.z2
    have zf := D3.fr
    have HB3 := Lib.hid hb3
    clear hb3 D3 p0 p1
    go_wp2_with fail
    obtain ⟨W3, hW3⟩ : ∃ W3, W3 = setCo w3 (w.heap.size + 1) 0 ⟨#[]⟩ 0 := ⟨_, rfl⟩
    obtain ⟨q0, q1, q2⟩ := setCo_cells z0 z1 z2 0 ⟨#[]⟩ 0
    have N3 := Lib.hid (setCo_below (Below.refl (w.heap.size + 1) w3) (Nat.le_refl _) 0 ⟨#[]⟩ 0)
    unfold setCo at hW3 q0 q1 q2 N3
    rw [← hW3] at q0 q1 q2 N3 ⊢
    refine bodyPost_ret (v := .tuple #[.slice A xs.length c, .agg #[.int .i64 0, .string ⟨#[]⟩, .int .i64 0], .int .i64 8]) (by simp [results, Tryz.results54, go_sem, q0, q1, q2]) rfl ?_
    have s3 := HB3.out.size
    have sn := N3.out.size
    refine ⟨_, by rw [HT.out, HH.out]; rfl, ?_, ?_, .inl rfl⟩
    · rw [del_none HH.out]
      exact ((HX.out.keep (Kept.of_below HB3.out (by omega))).keep (Kept.of_below N3.out (by omega))).wide (Nat.le_refl _) (by omega)
    · exact (HB.out.trans (HB3.out.mono (by omega))).trans (N3.out.mono (by omega))
  | true =>
    obtain ⟨k, hk1, hk2, hk3⟩ := idx_some HG.out.srt hh
    rw [hk1] at CF
    rw [hk3]
    obtain ⟨y, hy⟩ : ∃ y, y = atE xs p i := ⟨_, rfl⟩
    rw [← hy] at hk2 ⊢
    have HK2 := Lib.hid hk2
    have HH := Lib.hid hh
    have kl : k < xs.length := (List.getElem?_eq_some_iff.1 hk2).1
    have k0 : ¬ (k : Int) < 0 := by omega
    obtain ⟨yi, yx, yv, ys, yt⟩ := y
    simp only
    clear hh hk1 hk2 hk3 hy
    go_enter Tryz.func54, Tryz.ntmps54
    go_upto_region 1 with (fail)
    rw [show World.alloc (World.alloc w _) _ = W from HW.out.symm]
    go_wp2_with fail
    refine CF.out.mono ?_
    rintro e w3 ⟨rfl, hb3⟩
    have HB3 := Lib.hid hb3
    have z3 := hb3.size
    clear hb3 p0 p1
    go_wp2_with fail
    go_loopg [8, 9] xs.length (fun gg v s9 wr => ∃ (kk : Nat) (ys : List EnD), kk ≤ xs.length ∧ xs.length - kk ≤ gg ∧ s9 = .int .i64 kk ∧ ys.length ≤ kk ∧ Hid (ys = (xs.take kk).eraseIdx k) ∧ w3.heap.size ≤ wr.heap.size ∧ Hid (Row w3 v ys wr))
    case atStart => exact ⟨0, [], Nat.zero_le _, by omega, rfl, Nat.zero_le _, Lib.hid (by simp), Nat.le_refl _, Row.nil w3⟩
    case round =>
      obtain ⟨kk, zs, hkk, hgg, rfl, hzl, HZ, hzr, HR⟩ := hrel
      obtain ⟨B, d, hv⟩ := own_form HR.out.own
      subst hv
      by_cases hlt : kk < xs.length
      · have hltz : (kk : Int) < (xs.length : Int) := by omega
        have hd : decide (kk < xs.length) = true := decide_eq_true hlt
        obtain ⟨x, hxk⟩ : ∃ x, xs[kk]? = some x := ⟨_, List.getElem?_eq_getElem hlt⟩
        have HS := Lib.hid (era_step (k := k) hxk)
        by_cases hkk2 : kk = k
        · have t1 : ((kk : Int) != (k : Int)) = false := by rw [hkk2]; simp
          have HQ := Lib.hid hkk2
          clear hkk2
          go_wp2_with fail
          go_roundg (xs.length - (kk + 1))
          case measure => omega
          case rel => exact ⟨kk + 1, zs, by omega, by omega, by go_num, by omega, Lib.hid (by rw [HS.out, if_pos HQ.out]; exact HZ.out), hzr, HR⟩
        · have t1 : ((kk : Int) != (k : Int)) = true := by rw [bne_iff_ne]; omega
          have HQ := Lib.hid hkk2
          obtain ⟨b, off, rfl, h1, h2, c0, c1, c2, c3, c4⟩ := ((HX.out.keep (Kept.of_below HB3.out (by omega))).keep (Kept.of_below HR.out.bel (by omega))).at hxk
          obtain ⟨m, hm⟩ : ∃ m, m = zs.length := ⟨_, rfl⟩
          have HM := Lib.hid hm
          have HOW := Lib.hid HR.out.own
          rw [← hm] at HOW ⊢
          have hbytes : (m + 1) * 56 ≤ 140737488355328 := by omega
          have hmax : m + 1 ≤ maxLen := by unfold maxLen; omega
          have hbw : b < wr.heap.size := by omega
          clear hkk2 hm hxk
          go_wp2_with (at_builtin; refine wpList_append_lies _ rfl _ _ 25 rfl w3.heap.size 98 i45 _ 5 56 Tryz.underlying25 hi45 y0 y1 y2 rfl (by decide) _ _ _ rfl (HOW.out.alloc _) ⟨wr.heap.size, 0, none⟩ 1 1 (encE x) rfl rfl (five_new _ _ _ _ rfl) (encE_one x) (by decide) hmax hbytes (by simp; omega) _ rfl ?_; intro g' cap' w9 hown' hgrow hat hlt')
          go_roundg (xs.length - (kk + 1))
          case measure => omega
          case rel =>
            have hm := HM.out
            subst hm
            have RR := HR.out.push (x := x) hgrow hown'
            have := RR.bel.size
            refine ⟨kk + 1, zs ++ [x], by omega, by omega, by go_num, by simp; omega, Lib.hid (by rw [HS.out, if_neg HQ.out, HZ.out]), by omega, Lib.hid RR⟩
      · have hltz : ¬ (kk : Int) < (xs.length : Int) := by omega
        have hd : decide (kk < xs.length) = false := decide_eq_false hlt
        obtain rfl : kk = xs.length := by omega
        have HZ' := Lib.hid (show zs = xs.eraseIdx k from by rw [HZ.out, List.take_length])
        have HXr := (HX.out.keep (Kept.of_below HB3.out (by omega))).keep (Kept.of_below HR.out.bel (by omega))
        obtain ⟨b, off, rfl, h1, h2, c0, c1, c2, c3, c4⟩ := HXr.at HK2.out
        have hkz : (k : Int) < (xs.length : Int) := by omega
        have D3 := (C3.out.keep (HB3.out.block _ (by omega)) HB3.out.size).keep (HR.out.bel.block _ (by omega)) HR.out.bel.size
        obtain ⟨u0, z0⟩ := D3.z0
        obtain ⟨u1, z1⟩ := D3.z1
        obtain ⟨u2, z2⟩ := D3.z2
        have zf := D3.fr
        have hbw : b < wr.heap.size := by omega
        simp only at c2 c3 c4
        clear HXr D3
        go_wp2_with fail
        go_region
        obtain ⟨q0, q1, q2⟩ := setCo_cells z0 z1 z2 yv ys yt
        have N5 := Lib.hid (setCo_below (Below.refl (w.heap.size + 1) wr) (Nat.le_refl _) yv ys yt).drew
        obtain ⟨W5, hW5⟩ : ∃ W5, W5 = (setCo wr (w.heap.size + 1) yv ys yt).drew := ⟨_, rfl⟩
        have x0 : W5.cell? ⟨w.heap.size + 1, 0, none⟩ = some (.int .i64 yv) := by rw [hW5]; exact q0
        have x1 : W5.cell? ⟨w.heap.size + 1, 1, none⟩ = some (.string ys) := by rw [hW5]; exact q1
        have x2 : W5.cell? ⟨w.heap.size + 1, 2, none⟩ = some (.int .i64 yt) := by rw [hW5]; exact q2
        rw [← hW5] at N5
        have O5 := Lib.hid (show ∀ k, k ≠ w.heap.size + 1 → W5.heap[k]? = wr.heap[k]? from fun k hk => by rw [hW5]; exact setCo_other wr hk yv ys yt)
        unfold setCo at hW5
        rw [← hW5]
        clear q0 q1 q2 z0 z1 z2 zf c0 c1 c2 c3 c4 hW5
        go_wp2_with fail
        refine bodyPost_ret (v := .tuple #[.slice B zs.length d, .agg #[.int .i64 yv, .string ys, .int .i64 yt], .int .i64 0]) (by simp [results, Tryz.results54, go_sem, x0, x1, x2]) rfl ?_
        refine ⟨_, by rw [HT.out, HH.out]; rfl, ?_, ?_, Prov.own HR.out.own (by omega)⟩
        · rw [← HZ'.out]
          have hs := N5.out.size
          refine (Ents.keep HR.out.ents (fun b' hb1 hb2 => ?_)).wide (by omega) (by omega)
          exact O5.out b' (by omega)
        · exact ((HB.out.trans (HB3.out.mono (by omega))).trans (HR.out.bel.mono (by omega))).trans (N5.out.mono (by omega))

end Go.Proofs.YtnmfjnfdnjjngaaGreatDoor.Co

namespace Go.Proofs.YtnmfjnfdnjjngaaGreatDoor.Co
open Go.RowKit
set_option maxRecDepth 100000

theorem insF_len' (x : EnD) (l : List EnD) : (insF x l).1.length ≤ l.length + 1 := by
  have := insF_len x l ([], false)
  simpa [insF] using this

theorem Row.push' {w wr w9 : World} {v : Value} {ys : List EnD} {x : EnD} {o : Obj} {g cap m : Nat} (hm : m = ys.length) (h : Row w v ys wr) (hg : (wr.alloc o).grownBy w9 v.ownBlock)
    (hown : w9.ownsRow w.heap.size 98 5 (.slice (some ⟨g, 0, none⟩) (m + 1) cap) (m + 1) (cellsE ys ++ encE x)) : Row w (.slice (some ⟨g, 0, none⟩) (m + 1) cap) (ys ++ [x]) w9 ∧ w9.ownsRow w.heap.size 98 5 (.slice (some ⟨g, 0, none⟩) (m + 1) cap) (m + 1) (cellsE (ys ++ [x])) := by
  subst hm
  exact ⟨h.push hg hown, by rw [cellsE_snoc]; exact hown⟩

/-- Behind the walk of a list: what the document's Put hands back of it. -/
def RputEnd (v : Value) (xs : List EnD) (x : EnD) (lo : Nat) (w : World) (e : Ending) (w' : World) : Prop :=
  ∃ v', e = .returned (.tuple #[v', .int .i64 (putE xs x)]) ∧ Ents w' lo w'.heap.size v' (putL xs x) ∧ Below w.heap.size w w' ∧ Prov v w.heap.size v'

theorem idx_lt {l : List EnD} {p : ByteArray} {i : Int} (h : hasB l p i = true) (hg : Srt l) : 0 ≤ idxOf (isB p i) l := by
  obtain ⟨k, hk, _⟩ := idx_some hg h
  rw [hk]
  exact Int.natCast_nonneg k

set_option maxHeartbeats 4000000 in
theorem rput_any (A : Option Addr) (n c : Nat) (xs : List EnD) (x : EnD) (w : World) (lo hi : Nat) (hx : Ents w lo hi (.slice A n c) xs) (hhi : hi ≤ w.heap.size) (hlo : lo ≤ w.heap.size) (hg : Good xs) (hl : xs.length ≤ 900) :
    Calls Tryz.prog 56 #[.slice A n c, .agg #[.string x.id, .int .u32 x.ix], .agg #[.int .i64 x.val, .string x.scr, .int .i64 x.ht]] w (RputEnd (.slice A n c) xs x lo w) := by
  obtain rfl : n = xs.length := by obtain ⟨_, _, hv, _⟩ := hx; injection hv
  obtain ⟨w1, hw1⟩ : ∃ w1, w1 = w.alloc (.cells #[.string x.id, .int .u32 x.ix] 60) := ⟨_, rfl⟩
  have hz1 : w1.heap.size = w.heap.size + 1 := by rw [hw1]; simp
  have hb1 : Below w.heap.size w w1 := by rw [hw1]; exact (Below.refl _ _).alloc (Nat.le_refl _) _
  obtain ⟨W, hW⟩ : ∃ W, W = w1.alloc (.cells #[.int .i64 x.val, .string x.scr, .int .i64 x.ht] 64) := ⟨_, rfl⟩
  have hz : W.heap.size = w.heap.size + 2 := by rw [hW]; simp [hz1]
  have hBW : Below w.heap.size w W := by rw [hW]; exact hb1.alloc (by omega) _
  have h28 : W.heap[w.heap.size]? = some (.cells #[.string x.id, .int .u32 x.ix] 60) := by rw [hW, Below.heap_alloc _ _ _ (by omega), hw1]; exact heap_alloc_new _ _
  have h35 : W.heap[w.heap.size + 1]? = some (.cells #[.int .i64 x.val, .string x.scr, .int .i64 x.ht] 64) := by rw [hW, ← hz1]; exact heap_alloc_new _ _
  have p0 : W.cell? ⟨w.heap.size, 0, none⟩ = some (.string x.id) := cell_in (o := 0) h28 rfl
  have p1 : W.cell? ⟨w.heap.size, 1, none⟩ = some (.int .u32 x.ix) := cell_in (o := 1) h28 rfl
  have v0 : W.cell? ⟨w.heap.size + 1, 0, none⟩ = some (.int .i64 x.val) := cell_in (o := 0) h35 rfl
  have v2 : W.cell? ⟨w.heap.size + 1, 2, none⟩ = some (.int .i64 x.ht) := cell_in (o := 2) h35 rfl
  have hxW := hx.keep (Kept.of_below hBW hhi)
  have CF := Lib.hid (rfind_any A xs.length c xs x.id x.ix W lo hi hxW (by omega) (by omega))
  have CT := Lib.hid (fun V (hV : Ents V lo hi (.slice A xs.length c) xs) => rtotal_any A xs.length c xs V lo hi hV hg.pos hg.most (by omega))
  have CG := Lib.hid (fun k V => rgood_any k V)
  have HX := Lib.hid hxW
  have HG := Lib.hid hg
  have HB := Lib.hid hBW
  have H28 := Lib.hid h28
  have H35 := Lib.hid h35
  have HW := Lib.hid (show W = (w.alloc (.cells #[.string x.id, .int .u32 x.ix] 60)).alloc (.cells #[.int .i64 x.val, .string x.scr, .int .i64 x.ht] 64) from by rw [hW, hw1])
  obtain ⟨i45, hi45, y0, y1, y2⟩ := info_parts' info45
  obtain ⟨pid, pix, v, s, t⟩ := x
  simp only at CF HW p0 p1 v0 v2 H28 H35 ⊢
  have EA : Hid (argB ⟨pid, pix, v, s, t⟩ = (decide (pid.size = 32) && (decide (0 ≤ t) && decide (t ≤ 1000000) && goodB v))) := Lib.hid rfl
  have END := Lib.hid (show ∀ W', Below W.heap.size W W' → argB ⟨pid, pix, v, s, t⟩ = false → RputEnd (.slice A xs.length c) xs ⟨pid, pix, v, s, t⟩ lo w (.returned (.tuple #[.slice A xs.length c, .int .i64 2])) W' from fun W' hb ha => by
    obtain ⟨e1, e2⟩ := put_arg (l := xs) ha
    have := hb.size
    exact ⟨_, by rw [e1], by rw [e2]; exact (HX.out.keep (Kept.of_below hb (by omega))).wide (Nat.le_refl _) (by omega), HB.out.trans (hb.mono (by omega)), .inl rfl⟩)
  obtain ⟨g, hgg⟩ : ∃ g, g = goodB v := ⟨_, rfl⟩
  have CG1 := Lib.hid (CG.out v W)
  rw [← hgg] at CG1
  have HGG := Lib.hid hgg
  clear hx hg hb1 hw1 hBW hW h28 h35 hxW hgg
  go_enter Tryz.func56, Tryz.ntmps56
  go_upto_region 1 with (fail)
  rw [show World.alloc (World.alloc w _) _ = W from HW.out.symm]
  go_wp2_with fail
  refine CG1.out.mono ?_
  rintro e w2 ⟨rfl, rfl⟩
  go_upto_region 2 with (fail)
  by_cases hs : pid.size = 32
  case neg =>
    have hsz : ((pid.size : Int) != 32) = true := by rw [bne_iff_ne]; omega
    have HA := Lib.hid (show argB ⟨pid, pix, v, s, t⟩ = false from by rw [EA.out]; simp [hs])
    clear hs
    go_wp2_with fail
    go_ret2
    exact END.out _ (Below.refl _ _) HA.out
  have hsz : ((pid.size : Int) != 32) = false := by rw [hs]; rfl
  have HSZ := Lib.hid hs
  clear hs
  by_cases ht0 : t < 0
  · have HA := Lib.hid (show argB ⟨pid, pix, v, s, t⟩ = false from by rw [EA.out]; simp; omega)
    go_wp2_with fail
    go_ret2
    exact END.out _ (Below.refl _ _) HA.out
  by_cases ht1 : 1000000 < t
  · have HA := Lib.hid (show argB ⟨pid, pix, v, s, t⟩ = false from by rw [EA.out]; simp; omega)
    go_wp2_with fail
    go_ret2
    exact END.out _ (Below.refl _ _) HA.out
  cases g with
  | false =>
    have HA := Lib.hid (show argB ⟨pid, pix, v, s, t⟩ = false from by rw [EA.out, ← HGG.out]; simp)
    go_wp2_with fail
    go_ret2
    exact END.out _ (Below.refl _ _) HA.out
  | true =>
    have HA := Lib.hid (show argB ⟨pid, pix, v, s, t⟩ = true from by rw [EA.out, ← HGG.out, HSZ.out]; simp; omega)
    clear END EA
    cases hh : hasB xs pid pix with
    | true =>
      obtain ⟨k, hk1, _, _⟩ := idx_some HG.out.srt hh
      rw [hk1] at CF
      have hk0 : (0 : Int) ≤ (k : Int) := Int.natCast_nonneg k
      have HH := Lib.hid hh
      clear hh hk1
      go_wp2_with fail
      refine CF.out.mono ?_
      rintro e w3 ⟨rfl, hb3⟩
      have HB3 := Lib.hid hb3
      clear hb3
      go_wp2_with fail
      go_ret2
      obtain ⟨e1, e2⟩ := put_twice HA.out HH.out
      have s3 := HB3.out.size
      exact ⟨_, by rw [e1]; rfl, by rw [e2]; exact (HX.out.keep (Kept.of_below HB3.out (by omega))).wide (Nat.le_refl _) (by omega), HB.out.trans (HB3.out.mono (by omega)), .inl rfl⟩
    | false =>
      rw [idx_none hh] at CF
      have HH := Lib.hid hh
      clear hh
      go_wp2_with fail
      refine CF.out.mono ?_
      rintro e w3 ⟨rfl, hb3⟩
      have HB3 := Lib.hid hb3
      have s3 := hb3.size
      have HX3 := Lib.hid (HX.out.keep (Kept.of_below hb3 (by omega)))
      have h28 := (hb3.block w.heap.size (by omega)).trans H28.out
      have h35 := (hb3.block (w.heap.size + 1) (by omega)).trans H35.out
      have q0 : w3.cell? ⟨w.heap.size, 0, none⟩ = some (.string pid) := cell_in (o := 0) h28 rfl
      have q1 : w3.cell? ⟨w.heap.size, 1, none⟩ = some (.int .u32 pix) := cell_in (o := 1) h28 rfl
      have u0 : w3.cell? ⟨w.heap.size + 1, 0, none⟩ = some (.int .i64 v) := cell_in (o := 0) h35 rfl
      have u1 : w3.cell? ⟨w.heap.size + 1, 1, none⟩ = some (.string s) := cell_in (o := 1) h35 rfl
      have u2 : w3.cell? ⟨w.heap.size + 1, 2, none⟩ = some (.int .i64 t) := cell_in (o := 2) h35 rfl
      have CT3 := Lib.hid (CT.out w3 HX3.out)
      obtain ⟨tl, htl⟩ : ∃ tl, tl = tot xs := ⟨_, rfl⟩
      rw [← htl] at CT3
      have hv := goodB_iff.1 HGG.out.symm
      have hm1 := HG.out.most
      have hm0 := HG.out.zero
      have hwr : IntKind.i64.wrap (tl + v) = tl + v := IntWalk.i64_in _ (by omega)
      have HTL := Lib.hid htl
      have CG3 := Lib.hid (CG.out (tl + v) w3)
      clear hb3 p0 p1 v0 v2 htl hv hm1 hm0 h28 h35
      cases hgo : goodB (tl + v) with
      | false =>
        rw [hgo] at CG3
        have HGO := Lib.hid hgo
        clear hgo
        go_wp2_with fail
        refine CT3.out.mono ?_
        rintro e w4 ⟨rfl, hw⟩
        subst w4
        go_wp2_with fail
        refine CG3.out.mono ?_
        rintro e w4 ⟨rfl, hw⟩
        subst w4
        go_wp2_with fail
        go_ret2
        obtain ⟨e1, e2⟩ := put_range (l := xs) HA.out HH.out (by rw [← HTL.out]; exact HGO.out)
        exact ⟨_, by rw [e1]; rfl, by rw [e2]; exact HX3.out.wide (Nat.le_refl _) (by omega), HB.out.trans (HB3.out.mono (by omega)), .inl rfl⟩
      | true =>
        rw [hgo] at CG3
        have HGO := Lib.hid hgo
        clear hgo
        go_wp2_with fail
        refine CT3.out.mono ?_
        rintro e w4 ⟨rfl, hw⟩
        subst w4
        go_wp2_with fail
        refine CG3.out.mono ?_
        rintro e w4 ⟨rfl, hw⟩
        subst w4
        go_wp2_with fail
        go_loopg [11, 12, 13, 14] xs.length (fun gg v' s12 s13 _ wr => ∃ (kk : Nat) (ys : List EnD) (dn : Bool), kk ≤ xs.length ∧ xs.length - kk ≤ gg ∧ s13 = .int .i64 kk ∧ s12 = .bool dn ∧ ys.length ≤ kk + dn.toNat ∧ Hid (insF ⟨pid, pix, v, s, t⟩ (xs.take kk) = (ys, dn)) ∧ w3.heap.size ≤ wr.heap.size ∧ Hid (Row w3 v' ys wr))
        case atStart => exact ⟨0, [], false, Nat.zero_le _, by omega, rfl, rfl, by simp, Lib.hid (by simp [insF]), Nat.le_refl _, Row.nil w3⟩
        case round =>
          obtain ⟨kk, zs, dn, hkk, hgg, rfl, rfl, hzl, HZ, hzr, HR⟩ := hrel
          obtain ⟨B, d, hv⟩ := own_form HR.out.own
          subst hv
          have hdn := Bool.toNat_le dn
          have hnw : w.heap.size < w3.heap.size := by omega
          have hnw1 : w.heap.size + 1 < w3.heap.size := by omega
          have Q0 := (HR.out.bel.cell (p := ⟨w.heap.size, 0, none⟩) hnw).trans q0
          have Q1 := (HR.out.bel.cell (p := ⟨w.heap.size, 1, none⟩) hnw).trans q1
          have U0 := (HR.out.bel.cell (p := ⟨w.heap.size + 1, 0, none⟩) hnw1).trans u0
          have U1 := (HR.out.bel.cell (p := ⟨w.heap.size + 1, 1, none⟩) hnw1).trans u1
          have U2 := (HR.out.bel.cell (p := ⟨w.heap.size + 1, 2, none⟩) hnw1).trans u2
          clear q0 q1 u0 u1 u2
          by_cases hlt : kk < xs.length
          · have hltz : (kk : Int) < (xs.length : Int) := by omega
            have hd : decide (kk < xs.length) = true := decide_eq_true hlt
            obtain ⟨y, hxk⟩ : ∃ y, xs[kk]? = some y := ⟨_, List.getElem?_eq_getElem hlt⟩
            have HS := Lib.hid (insF_step (x := ⟨pid, pix, v, s, t⟩) hxk)
            obtain ⟨b, off, rfl, h1, h2, a0, a1, a2, a3, a4⟩ := HX3.out.at hxk
            have hb3w : b < w3.heap.size := by omega
            have HA3 := Lib.hid (And.intro a0 (And.intro a1 (And.intro a2 (And.intro a3 a4))))
            have c0 := (HR.out.bel.cell (p := ⟨b, off + kk * 5, none⟩) hb3w).trans a0
            have c1 := (HR.out.bel.cell (p := ⟨b, off + kk * 5 + 1, none⟩) hb3w).trans a1
            have c2 := (HR.out.bel.cell (p := ⟨b, off + kk * 5 + 2, none⟩) hb3w).trans a2
            have c3 := (HR.out.bel.cell (p := ⟨b, off + kk * 5 + 3, none⟩) hb3w).trans a3
            have c4 := (HR.out.bel.cell (p := ⟨b, off + kk * 5 + 4, none⟩) hb3w).trans a4
            clear a0 a1 a2 a3 a4
            have hbw : b < wr.heap.size := by omega
            have hpw : w.heap.size < wr.heap.size := by omega
            have hqw : w.heap.size + 1 < wr.heap.size := by omega
            have HC := Lib.hid (And.intro c0 (And.intro c1 (And.intro c2 (And.intro c3 c4))))
            have HU := Lib.hid (And.intro Q0 (And.intro Q1 (And.intro U0 (And.intro U1 U2))))
            have r0 : ∀ z : After wr, z.val.cell? ⟨w.heap.size, 0, none⟩ = some (.string pid) := fun z => (z.ok.cell (p := ⟨w.heap.size, 0, none⟩) hpw).trans Q0
            have r1 : ∀ z : After wr, z.val.cell? ⟨w.heap.size, 1, none⟩ = some (.int .u32 pix) := fun z => (z.ok.cell (p := ⟨w.heap.size, 1, none⟩) hpw).trans Q1
            have r2 : ∀ z : After wr, z.val.cell? ⟨b, off + kk * 5, none⟩ = some (.string y.id) := fun z => (z.ok.cell (p := ⟨b, off + kk * 5, none⟩) hbw).trans c0
            have r3 : ∀ z : After wr, z.val.cell? ⟨b, off + kk * 5 + 1, none⟩ = some (.int .u32 y.ix) := fun z => (z.ok.cell (p := ⟨b, off + kk * 5 + 1, none⟩) hbw).trans c1
            have hne : Nonempty (After wr) := ⟨⟨wr, Below.refl _ _⟩⟩
            have CS := Lib.hid (fun z : After wr => rless_any pid pix y.id y.ix z.val)
            obtain ⟨r, hr⟩ : ∃ r, r = lessB pid pix y.id y.ix := ⟨_, rfl⟩
            have HRR := Lib.hid hr
            rw [← hr] at CS
            obtain ⟨m, hm⟩ : ∃ m, m = zs.length := ⟨_, rfl⟩
            have HM := Lib.hid hm
            have HRW := Lib.hid (fun W' (hW' : Below wr.heap.size wr W') => HR.out.below hW')
            rw [← hm] at HRW ⊢
            have hml : m ≤ 1000 := by omega
            clear hxk hr hm c0 c1 c2 c3 c4 Q0 Q1 U0 U1 U2
            go_wp2_with fail
            refine wp_region_after (by kernel_rfl) (by kernel_rfl) ?_
            repeat (go_big_quiet_step ((go_at_call 83; exact After.call _ (CS.out _))))
            refine wpQuiet_nil ?_
            rintro _ ⟨z, rfl⟩
            have HY := Lib.hid z.ok
            have ys0 := (z.ok.cell (p := ⟨b, off + kk * 5, none⟩) hbw).trans HC.out.1
            have ys1 := (z.ok.cell (p := ⟨b, off + kk * 5 + 1, none⟩) hbw).trans HC.out.2.1
            have ys2 := (z.ok.cell (p := ⟨b, off + kk * 5 + 2, none⟩) hbw).trans HC.out.2.2.1
            have ys3 := (z.ok.cell (p := ⟨b, off + kk * 5 + 3, none⟩) hbw).trans HC.out.2.2.2.1
            have ys4 := (z.ok.cell (p := ⟨b, off + kk * 5 + 4, none⟩) hbw).trans HC.out.2.2.2.2
            have xs0 := (z.ok.cell (p := ⟨w.heap.size, 0, none⟩) hpw).trans HU.out.1
            have xs1 := (z.ok.cell (p := ⟨w.heap.size, 1, none⟩) hpw).trans HU.out.2.1
            have xs2 := (z.ok.cell (p := ⟨w.heap.size + 1, 0, none⟩) hqw).trans HU.out.2.2.1
            have xs3 := (z.ok.cell (p := ⟨w.heap.size + 1, 1, none⟩) hqw).trans HU.out.2.2.2.1
            have xs4 := (z.ok.cell (p := ⟨w.heap.size + 1, 2, none⟩) hqw).trans HU.out.2.2.2.2
            have HRZ := Lib.hid (HRW.out z.val z.ok)
            generalize z.val = wz at HY HRZ ys0 ys1 ys2 ys3 ys4 xs0 xs1 xs2 xs3 xs4
            clear r0 r1 r2 r3 CS
            have HOW := Lib.hid HRZ.out.own
            rw [← HM.out] at HOW
            have hbytes : (m + 1) * 56 ≤ 140737488355328 := by omega
            have hmax : m + 1 ≤ maxLen := by unfold maxLen; omega
            have hzz := HY.out.size
            have hm2 : m + 1 + 1 ≤ 1002 := Nat.add_le_add_right (Nat.add_le_add_right hml 1) 1
            have hbytes2 : (m + 1 + 1) * 56 ≤ 140737488355328 := Nat.le_trans (Nat.mul_le_mul_right 56 hm2) (by decide)
            have hmax2 : m + 1 + 1 ≤ maxLen := Nat.le_trans hm2 (by unfold maxLen; decide)
            clear hm2
            have hz0 : dn = false → zs.length ≤ kk := fun h => by rw [h] at hzl; exact hzl
            have hz1 : zs.length + 1 ≤ kk + 1 + dn.toNat := by omega
            clear hzl hdn
            by_cases hrd : r = true ∧ dn = false
            · obtain ⟨rfl, rfl⟩ := hrd
              have HIN : Hid (insS ⟨pid, pix, v, s, t⟩ (zs, false) y = (zs ++ [⟨pid, pix, v, s, t⟩] ++ [y], true)) := Lib.hid (by
                unfold insS
                rw [if_pos]
                rw [show lt ⟨pid, pix, v, s, t⟩ y = true from HRR.out.symm]
                rfl)
              have hz0' := hz0 rfl
              go_upto_region 20 with (at_builtin; refine wpList_append_lies _ rfl _ _ 25 rfl w3.heap.size 98 i45 _ 5 56 Tryz.underlying25 hi45 y0 y1 y2 rfl (by decide) _ _ _ rfl (HOW.out.alloc _) ⟨wz.heap.size, 0, none⟩ 1 1 (encE ⟨pid, pix, v, s, t⟩) rfl rfl (five_new _ _ _ _ rfl) (encE_one _) (by decide) hmax hbytes (by simp; omega) _ rfl ?_; intro g1 cap1 w9 hown1 hgrow1 hat1 hlt1)
              have RR := Row.push' (x := ⟨pid, pix, v, s, t⟩) HM.out HRZ.out hgrow1 hown1
              have R1 := Lib.hid RR.1
              have HOW1 := Lib.hid RR.2
              clear RR hat1 hgrow1 hown1 ys0 ys1 ys2 ys3 ys4
              have ys0 := (R1.out.bel.cell (p := ⟨b, off + kk * 5, none⟩) hb3w).trans HA3.out.1
              have ys1 := (R1.out.bel.cell (p := ⟨b, off + kk * 5 + 1, none⟩) hb3w).trans HA3.out.2.1
              have ys2 := (R1.out.bel.cell (p := ⟨b, off + kk * 5 + 2, none⟩) hb3w).trans HA3.out.2.2.1
              have ys3 := (R1.out.bel.cell (p := ⟨b, off + kk * 5 + 3, none⟩) hb3w).trans HA3.out.2.2.2.1
              have ys4 := (R1.out.bel.cell (p := ⟨b, off + kk * 5 + 4, none⟩) hb3w).trans HA3.out.2.2.2.2
              have hz9 := R1.out.bel.size
              go_wp2_with (at_builtin; refine wpList_append_lies _ rfl _ _ 25 rfl w3.heap.size 98 i45 _ 5 56 Tryz.underlying25 hi45 y0 y1 y2 rfl (by decide) _ _ _ rfl (HOW1.out.alloc _) ⟨w9.heap.size, 0, none⟩ 1 1 (encE y) rfl rfl (five_new _ _ _ _ rfl) (encE_one _) (by decide) hmax2 hbytes2 (by simp; omega) _ rfl ?_; intro g2 cap2 w8 hown2 hgrow2 hat2 hlt2)
              go_roundg (xs.length - (kk + 1))
              case measure => omega
              case rel =>
                have hm := HM.out
                have RR := (Row.push' (x := y) (by simp [hm]) R1.out hgrow2 hown2).1
                have := RR.bel.size
                exact ⟨kk + 1, zs ++ [⟨pid, pix, v, s, t⟩] ++ [y], _, by omega, by omega, by go_num, rfl, by simp only [List.length_append, List.length_cons, List.length_nil]; exact Nat.add_le_add (Nat.add_le_add hz0' (Nat.le_refl 1)) (Nat.le_refl 1), Lib.hid (by rw [HS.out, HZ.out, HIN.out]), by omega, Lib.hid RR⟩
            · have HIN : Hid (insS ⟨pid, pix, v, s, t⟩ (zs, dn) y = (zs ++ [y], dn)) := Lib.hid (by
                unfold insS
                rw [if_neg]
                rw [show lt ⟨pid, pix, v, s, t⟩ y = r from HRR.out.symm]
                cases r <;> cases dn <;> simp_all)
              have hsplit : r = false ∨ (r = true ∧ dn = true) := by cases r <;> cases dn <;> simp_all
              clear hrd
              rcases hsplit with rfl | ⟨rfl, rfl⟩
              all_goals
                go_wp2_with (at_builtin; refine wpList_append_lies _ rfl _ _ 25 rfl w3.heap.size 98 i45 _ 5 56 Tryz.underlying25 hi45 y0 y1 y2 rfl (by decide) _ _ _ rfl (HOW.out.alloc _) ⟨wz.heap.size, 0, none⟩ 1 1 (encE y) rfl rfl (five_new _ _ _ _ rfl) (encE_one _) (by decide) hmax hbytes (by simp; omega) _ rfl ?_; intro g1 cap1 w9 hown1 hgrow1 hat1 hlt1)
                go_roundg (xs.length - (kk + 1))
                case measure => omega
                case rel =>
                  have hm := HM.out
                  subst hm
                  have RR := HRZ.out.push (x := y) hgrow1 hown1
                  have := RR.bel.size
                  exact ⟨kk + 1, zs ++ [y], _, by omega, by omega, by go_num, rfl, by simp only [List.length_append, List.length_cons, List.length_nil]; exact hz1, Lib.hid (by rw [HS.out, HZ.out, HIN.out]), by omega, Lib.hid RR⟩
          · have hltz : ¬ (kk : Int) < (xs.length : Int) := by omega
            have hd : decide (kk < xs.length) = false := decide_eq_false hlt
            obtain rfl : kk = xs.length := by omega
            rw [List.take_length] at HZ
            obtain ⟨e1, e2⟩ := put_yes (l := xs) HA.out HH.out (by rw [← HTL.out]; exact HGO.out)
            have HE := Lib.hid (And.intro e1 e2)
            have HI := Lib.hid (show insR ⟨pid, pix, v, s, t⟩ xs = if dn = true then zs else zs ++ [⟨pid, pix, v, s, t⟩] from by rw [← insD_eq]; unfold insD; rw [HZ.out])
            have HOW := Lib.hid HR.out.own
            have HRX := Lib.hid HR.out
            obtain ⟨m, hm⟩ : ∃ m, m = zs.length := ⟨_, rfl⟩
            rw [← hm] at HOW HRX ⊢
            have hml : m ≤ 1000 := by omega
            have HM := Lib.hid hm
            have hbytes : (m + 1) * 56 ≤ 140737488355328 := by omega
            have hmax : m + 1 ≤ maxLen := by unfold maxLen; omega
            clear hm e1 e2
            cases dn with
            | true =>
              go_wp2_with fail
              go_ret2
              refine ⟨.slice B m d, by rw [HE.out.1]; rfl, ?_, HB.out.trans ((HB3.out.trans (HR.out.bel.mono (by omega))).mono (by omega)), Prov.own HRX.out.own (show w.heap.size ≤ w3.heap.size by omega)⟩
              rw [HE.out.2, HI.out, if_pos trivial]
              exact HRX.out.ents.wide (by omega) (Nat.le_refl _)
            | false =>
              go_wp2_with (at_builtin; refine wpList_append_lies _ rfl _ _ 25 rfl w3.heap.size 98 i45 _ 5 56 Tryz.underlying25 hi45 y0 y1 y2 rfl (by decide) _ _ _ rfl (HOW.out.alloc _) ⟨wr.heap.size, 0, none⟩ 1 1 (encE ⟨pid, pix, v, s, t⟩) rfl rfl (five_new _ _ _ _ rfl) (encE_one _) (by decide) hmax hbytes (by simp; omega) _ rfl ?_; intro g1 cap1 w9 hown1 hgrow1 hat1 hlt1)
              go_ret2
              have RR := (Row.push' (x := ⟨pid, pix, v, s, t⟩) HM.out HRX.out hgrow1 hown1).1
              refine ⟨.slice (some ⟨g1, 0, none⟩) (m + 1) cap1, by rw [HE.out.1]; rfl, ?_, HB.out.trans ((HB3.out.trans (RR.bel.mono (by omega))).mono (by omega)), Prov.own RR.own (show w.heap.size ≤ w3.heap.size by omega)⟩
              rw [HE.out.2, HI.out, if_neg (by decide)]
              exact RR.ents.wide (by omega) (Nat.le_refl _)

end Go.Proofs.YtnmfjnfdnjjngaaGreatDoor.Co
