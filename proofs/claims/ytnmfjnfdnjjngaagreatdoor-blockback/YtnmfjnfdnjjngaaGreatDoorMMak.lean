/-
  The statement's Make: some transaction over some coins.
-/
import Derived.Test.YtnmfjnfdnjjngaaGreatDoorMWkq
import Derived.Deep.CutBlock
namespace Go.Proofs.YtnmfjnfdnjjngaaGreatDoor
open Go.RowKit
set_option maxRecDepth 100000

/-- An In as Make builds it. -/
structure MkX (w wo : World) (id : ByteArray) (ix sq val : Int) (s : ByteArray) (wr : World) : Prop where
  bx : wr.cell? ⟨wo.heap.size, 2, none⟩ = some (.int .i64 val)
  box : Open wr (wo.heap.size + 1 + 1 + 1) (.string id) (.int .u32 ix) (.int .u32 sq) (.slice (some ⟨wo.heap.size + 1 + 1, 0, none⟩) 1 1)
  own : StrOwn wr (w.heap.size + 3) wr.heap.size (.slice (some ⟨wo.heap.size + 1 + 1, 0, none⟩) 1 1) [s]
  bel : Below wo.heap.size wo wr
  le : wo.heap.size + 4 ≤ wr.heap.size
theorem MkX.start (w wo : World) (hz : w.heap.size + 3 ≤ wo.heap.size) (id : ByteArray) (ix sq val ht : Int) (sc s : ByteArray) (a b c : Int) :
    MkX w wo id ix sq val s ((((wo.alloc (.cells #[.string id, .int .u32 ix, .int .i64 val, .string sc, .int .i64 ht] 98)).alloc (.cells #[.int .u8 a, .int .u8 b, .int .u8 c] 5)).alloc (.cells #[.string s] 9)).alloc (.cells #[.string id, .int .u32 ix, .int .u32 sq, .slice (some ⟨wo.heap.size + 1 + 1, 0, none⟩) 1 1] 107)) := by
  obtain ⟨W1, h1⟩ : ∃ W, W = wo.alloc (.cells #[.string id, .int .u32 ix, .int .i64 val, .string sc, .int .i64 ht] 98) := ⟨_, rfl⟩
  obtain ⟨W2, h2⟩ : ∃ W, W = W1.alloc (.cells #[.int .u8 a, .int .u8 b, .int .u8 c] 5) := ⟨_, rfl⟩
  obtain ⟨W3, h3⟩ : ∃ W, W = W2.alloc (.cells #[.string s] 9) := ⟨_, rfl⟩
  have z1 : W1.heap.size = wo.heap.size + 1 := by rw [h1]; simp
  have z2 : W2.heap.size = wo.heap.size + 1 + 1 := by rw [h2]; simp [z1]
  have z3 : W3.heap.size = wo.heap.size + 1 + 1 + 1 := by rw [h3]; simp [z2]
  have b1 : Below wo.heap.size wo W1 := by rw [h1]; exact (Below.refl _ _).alloc (Nat.le_refl _) _
  have b2 : Below wo.heap.size wo W2 := by rw [h2]; exact b1.alloc (by omega) _
  have b3 : Below wo.heap.size wo W3 := by rw [h3]; exact b2.alloc (by omega) _
  have k1 : W1.heap[wo.heap.size]? = some (.cells #[.string id, .int .u32 ix, .int .i64 val, .string sc, .int .i64 ht] 98 (0, 0)) := by rw [h1]; exact heap_alloc_new _ _
  have k3 : W3.heap[wo.heap.size]? = some (.cells #[.string id, .int .u32 ix, .int .i64 val, .string sc, .int .i64 ht] 98 (0, 0)) := by
    rw [h3, Below.heap_alloc _ _ _ (by omega), h2, Below.heap_alloc _ _ _ (by omega)]; exact k1
  have o3 : StrOwn W3 (w.heap.size + 3) W3.heap.size (.slice (some ⟨wo.heap.size + 1 + 1, 0, none⟩) 1 1) [s] := by
    have := StrOwn.one W2 (w.heap.size + 3) (by omega) s
    rw [← h3, z2] at this
    rw [z3]
    exact this
  rw [← h1, ← h2, ← h3]
  have hb := Open.new W3 (.string id) (.int .u32 ix) (.int .u32 sq) (.slice (some ⟨wo.heap.size + 1 + 1, 0, none⟩) 1 1) 107
  rw [z3] at hb
  refine ⟨?_, hb, ?_, b3.alloc (by omega) _, by simp; omega⟩
  · exact Co.cell_in ((Below.heap_alloc _ _ _ (by omega)).trans k3) rfl
  · exact OwnAt.keep o3 (StayE.alloc _ (Nat.le_refl _)) (by simp)
theorem grown_cell {w w1 : World} {o : Obj} {v : Value} {k i : Nat} {u : Value} (hg : (w.alloc o).grownBy w1 v.ownBlock) (hk : k < w.heap.size) (hn : ∀ g, v.ownBlock = some g → g < k) (hc : w.cell? ⟨k, i, none⟩ = some u) : w1.cell? ⟨k, i, none⟩ = some u :=
  (World.cell?_of_block (w := w.alloc o) (a := ⟨k, i, none⟩) (hg.block k (by simp; omega) (fun e => by have := hn k e.symm; omega))).trans ((World.cell?_alloc_lt _ _ ⟨k, i, none⟩ hk).trans hc)

/-- What Make answers. -/
def MakEnd (w : World) (e : Ending) (w' : World) : Prop :=
  ∃ (t : TxD) (vi vo : Value), e = .returned (.agg #[.int .u32 t.ver, vi, vo, .int .u32 t.lock]) ∧ TxAt w' w.heap.size w'.heap.size vi vo t ∧ t.Ok ∧ t.outs.length ≤ 3 ∧ Below w.heap.size w w'

set_option maxHeartbeats 4000000 in
theorem make_any (Al : Option Addr) (cl : Nat) (l : List Co.EnD) (z : SmD) (As : Option Addr) (cs : Nat) (h : Int) (w : World) (lo hi : Nat) (hx : Co.Ents w lo hi (.slice Al l.length cl) l) (hhi : hi ≤ w.heap.size) (hg : Co.Good l) (ha : Co.Arg l) (hl : l.length ≤ 900)
    (hb : Byts w 0 w.heap.size (.slice As z.sp.length cs) z.sp) (hz : z.Ok) (h1 : 0 ≤ h) (h2 : h ≤ 1000000) :
    Calls Tryz.prog 31 #[.slice Al l.length cl, .agg #[.slice As z.sp.length cs, .int .u8 z.tag, .int .u16 z.fee, .int .u16 z.outs, .int .u8 z.pays, .int .u8 z.del, .int .u8 z.ht, .bool z.gr, .bool z.odd], .int .i64 h] w (MakEnd w) := by
  have EN := Lib.hid (fun V (hV : Below w.heap.size w V) => (hx.keep (Kept.of_below hV hhi)))
  have BY := Lib.hid (fun V (hV : Below w.heap.size w V) => (hb.keep (Kept.of_below hV (Nat.le_refl _))))
  have GD := Lib.hid hg
  have AG := Lib.hid ha
  have ZO := Lib.hid hz
  obtain ⟨nl, hnl⟩ : ∃ n, l.length = n := ⟨_, rfl⟩
  obtain ⟨ns, hns⟩ : ∃ n, z.sp.length = n := ⟨_, rfl⟩
  rw [hnl] at EN hl ⊢
  rw [hns] at BY ⊢
  have HN := Lib.hid (And.intro hnl hns)
  have ST := Lib.hid (MkSt.start w z (.slice As ns cs))
  obtain ⟨i107, hi107, x0, x1, x2⟩ := info_parts info43
  obtain ⟨i62, hi62, z0, z1, z2⟩ := info_parts info52
  have htl : ns ≤ 9223372036854775807 := by have := ZO.out.1; unfold maxLen at this; omega
  clear hx hg ha hb hz hnl hns
  go_enter Tryz.func31, Tryz.ntmps31
  go_upto_block 0 with (fail)
  go_cut [8] (fun s8 wx => ∃ (sum : Int) (ys : List InD) (vI : Value), s8 = .int .i64 sum ∧ Hid (0 ≤ sum ∧ sum ≤ 8400000000000000) ∧ Hid (MkSt w z (.slice As ns cs) ys [] 0 vI (.slice none 0 0) wx) ∧ Hid (ys.length ≤ 4 ∧ ∀ y ∈ ys, y.Ok))
  case first =>
    go_wp2_with fail
    go_loopg [8, 9] ns (fun gg s8 s9 wr => ∃ (k : Nat) (sum : Int) (ys : List InD) (vI : Value), k ≤ ns ∧ k ≤ 4 ∧ ns - k ≤ gg ∧ s8 = .int .i64 sum ∧ s9 = .int .i64 (k : Int) ∧ 0 ≤ sum ∧ sum ≤ k * 2100000000000000 ∧ Hid (MkSt w z (.slice As ns cs) ys [] 0 vI (.slice none 0 0) wr) ∧ Hid (ys.length ≤ k ∧ ∀ y ∈ ys, y.Ok))
    case atStart => exact ⟨0, 0, [], .slice none 0 0, Nat.zero_le _, Nat.zero_le _, by omega, rfl, rfl, by omega, by omega, ST, Lib.hid ⟨Nat.zero_le _, by simp⟩⟩
    case round =>
      obtain ⟨k, sum, ys, vI, hk, hk4, hgk, rfl, rfl, hs0, hs1, HM, HY⟩ := hrel
      obtain ⟨a0, a1, a2, a3, a4, a5, a6, a7, a8⟩ := HM.out.cells
      obtain ⟨⟨u0, u1, u2, u3⟩, fu⟩ := HM.out.bu
      have hz := HM.out.le
      have hzz : w.heap.size < wr.heap.size := by omega
      by_cases hlt : k < ns ∧ k < 4
      · obtain ⟨hlt, hlt4⟩ := hlt
        have j1 : (k : Int) < (ns : Int) := by omega
        have j2 : decide (k < ns) = true := decide_eq_true hlt
        have j3 : (k : Int) < 4 := by omega
        have j4 : decide ((k : Int) < 4) = true := decide_eq_true j3
        have j5 : ¬ (k : Int) < 0 := by omega
        by_cases hn0 : nl = 0
        · subst hn0
          go_wp2_with fail
          go_roundg (ns - (k + 1))
          case measure => omega
          case rel => exact ⟨k + 1, sum, ys, vI, by omega, by omega, by omega, rfl, by go_num, hs0, by omega, HM, Lib.hid ⟨by have := HY.out.1; omega, HY.out.2⟩⟩
        · obtain ⟨sx, hsx⟩ : ∃ x, z.sp[k]? = some x := ⟨_, List.getElem?_eq_getElem (by rw [HN.out.2]; exact hlt)⟩
          obtain ⟨bs, os, rfl, _, hbs, e0⟩ := (BY.out wr HM.out.bel).at hsx
          rw [Nat.mul_one] at e0
          have hsb := ZO.out.2.1 sx (List.mem_of_getElem? hsx)
          obtain ⟨q, hq⟩ : ∃ q : Nat, sx.tmod (nl : Int) = (q : Int) ∧ q < nl := ⟨(sx.tmod nl).toNat, by
            have h1 := Int.tmod_nonneg (a := sx) (nl : Int) hsb.1
            have h2 := Int.tmod_lt_of_pos sx (b := (nl : Int)) (by omega)
            omega⟩
          obtain ⟨hq1, hq2⟩ := hq
          have n1 : ¬ (nl : Int) = 0 := by omega
          have n2 : ((nl : Int) == 0) = false := by simp; omega
          have n3 : ¬ (q : Int) < 0 := by omega
          have n4 : (q : Int) < (nl : Int) := by omega
          have n5 : (nl == 0) = false := by simp; omega
          have n6 : sx % (nl : Int) = (q : Int) := by rw [← Int.tmod_eq_emod_of_nonneg hsb.1]; exact hq1
          obtain ⟨x, hxq⟩ : ∃ x, l[q]? = some x := ⟨_, List.getElem?_eq_getElem (by rw [HN.out.1]; exact hq2)⟩
          obtain ⟨b, off, rfl, g1, g2, c0, c1, c2, c3, c4⟩ := (EN.out wr HM.out.bel).at hxq
          have XO := Lib.hid (AG.out.val (List.mem_of_getElem? hxq))
          have XG := Lib.hid (GD.out.ok x (List.mem_of_getElem? hxq))
          have d0 := ZO.out.2.2.2.2.2.2.1
          have t0 := ZO.out.2.2.1
          obtain ⟨dq, hdq⟩ : ∃ d, z.del.tmod 4 = d := ⟨_, rfl⟩
          obtain ⟨tq, htq⟩ : ∃ d, z.tag.tmod 3 = d := ⟨_, rfl⟩
          have DQ := Lib.hid (show 0 ≤ dq ∧ dq ≤ 3 from by
            have h1 := Int.tmod_nonneg (a := z.del) 4 d0.1
            have h2 := Int.tmod_lt_of_pos z.del (b := 4) (by omega)
            omega)
          have TQ := Lib.hid (show 0 ≤ tq ∧ tq ≤ 2 from by
            have h1 := Int.tmod_nonneg (a := z.tag) 3 t0.1
            have h2 := Int.tmod_lt_of_pos z.tag (b := 3) (by omega)
            omega)
          have wd : IntKind.u32.wrap dq = dq := IntWalk.u32_in _ (by have := DQ.out; omega)
          have tx3 := text3
          have HZ := Lib.hid hz
          have hz1 : w.heap.size < wr.heap.size + 1 := by omega
          have hz2 : w.heap.size < wr.heap.size + 1 + 1 := by omega
          have hz3 : w.heap.size < wr.heap.size + 1 + 1 + 1 := by omega
          have X0 := Lib.hid (fun sq => MkX.start w wr hz x.id x.ix sq x.val x.ht x.scr (strOfNums [0, tq, 0]) 0 tq 0)
          go_upto_if 60 with (fail)
          go_cut [] (fun wx => ∃ sq : Int, Hid (0 ≤ sq ∧ sq ≤ 4294967295) ∧ Hid (MkX w wr x.id x.ix sq x.val (strOfNums [0, tq, 0]) wx))
          case first =>
            by_cases hd0 : dq = 0
            · subst hd0
              go_wp2_with fail
              go_meet
              exact ⟨4294967293, Lib.hid (by omega), Lib.hid (X0.out 4294967293)⟩
            · have e1 : (dq == 0) = false := by simp [hd0]
              go_wp2_with fail
              go_meet
              exact ⟨dq, Lib.hid (by have := DQ.out; omega), Lib.hid (X0.out dq)⟩
          case rest =>
            obtain ⟨sq, HQ, HX⟩ := hcut
            clear a0 a1 a2 a3 a4 a5 a6 a7 a8 c0 c1 c2 c3 c4 e0
            have hle := HX.out.le
            have u1' := (HX.out.bel.cell (p := ⟨w.heap.size + 1 + 1, 1, none⟩) (by show w.heap.size + 1 + 1 < wr.heap.size; omega)).trans u1
            clear u0 u1 u2 u3 fu
            obtain ⟨⟨d0', d1', d2', d3'⟩, fx⟩ := HX.out.box
            have hbx := HX.out.bx
            have HI := Lib.hid (HM.out.ins.keep (StayE.of_below HX.out.bel (Nat.le_refl _)) (StayE.of_below HX.out.bel (Nat.le_refl _)) (Nat.le_refl _))
            obtain ⟨cells, hown, hall⟩ := HI.out
            have HOW := Lib.hid hown.1
            have HTOP := Lib.hid hown.2
            have HAL := Lib.hid hall
            obtain ⟨ny, hny⟩ : ∃ n, ys.length = n := ⟨_, rfl⟩
            have HNY := Lib.hid hny
            have hny4 : ny ≤ 4 := by have := HY.out.1; omega
            rw [hny] at HOW
            obtain ⟨AI, cI, rfl⟩ := own_form HOW.out
            have hne1 : ¬ wr.heap.size = w.heap.size + 1 + 1 := by omega
            have hne2 : ¬ w.heap.size + 1 + 1 = wr.heap.size := by omega
            have ws : IntKind.i64.wrap (sum + x.val) = sum + x.val := IntWalk.i64_in _ (by have := XO.out.2.2.2; omega)
            have hzc : w.heap.size + 1 + 1 < wc.heap.size := by omega
            have hzc2 : wr.heap.size < wc.heap.size := by omega
            have hzc3 : wr.heap.size + 1 + 1 + 1 < wc.heap.size := by omega
            clear hown hall HI hny
            go_wp2_with (at_builtin; refine wpList_append_own _ rfl _ _ 48 rfl (w.heap.size + 3) 107 i107 _ 4 56 Tryz.underlying48 hi107 x0 x1 x2 rfl (by decide) _ _ _ rfl (HOW.out.alloc _) ⟨wc.heap.size, 0, none⟩ 1 1 [.string x.id, .int .u32 x.ix, .int .u32 sq, .slice (some ⟨wr.heap.size + 1 + 1, 0, none⟩) 1 1] rfl rfl (four_new _ _ _ _ _ _) (by intro u hu; simp at hu; rcases hu with rfl | rfl | rfl | rfl <;> rfl) (by unfold maxLen; omega) (by omega) (by simp; omega) ?_; intro v' w1 hown' hgrow _; obtain ⟨A', c', rfl⟩ := own_form hown'; have ho := HM.out.openIn HX.out.bel HOW.out hgrow; have d3' := ho.1.2.1; have f3' := ho.2 1; have bx1 := grown_cell hgrow hzc2 HTOP.out hbx)
            go_roundg (ns - (k + 1))
            case measure => omega
            case rel =>
              have e1 := HNY.out
              subst e1
              exact ⟨k + 1, _, ys ++ [⟨x.id, x.ix, sq, [strOfNums [0, tq, 0]]⟩], _, by omega, by omega, by omega, rfl, by go_num, by have := XO.out.2.2.2; omega, by have := XO.out.2.2.2; omega, Lib.hid (HM.out.pushIn (x := ⟨x.id, x.ix, sq, [strOfNums [0, tq, 0]]⟩) HX.out.bel HX.out.own HOW.out HAL.out hgrow hown'), Lib.hid ⟨by rw [List.length_append]; have := HY.out.1; simp; omega, fun y hy => by
                rcases List.mem_append.1 hy with hy | hy
                · exact HY.out.2 y hy
                · obtain rfl := List.mem_singleton.1 hy
                  exact ⟨(XG.out.1).1, (XG.out.1).2.1, (XG.out.1).2.2, HQ.out.1, HQ.out.2, by show 1 ≤ 8; omega, fun s hs => by
                    obtain rfl := List.mem_singleton.1 hs
                    rw [strOfNums_size]; show (3 : Nat) ≤ 128; omega⟩⟩⟩
      · have hsplit : (¬ (k : Int) < (ns : Int)) ∨ ((k : Int) < (ns : Int) ∧ ¬ (k : Int) < 4) := by omega
        have PP := Lib.hid (show Hid (0 ≤ sum ∧ sum ≤ 8400000000000000) from Lib.hid ⟨hs0, by omega⟩)
        have PY := Lib.hid (show Hid (ys.length ≤ 4 ∧ ∀ y ∈ ys, y.Ok) from Lib.hid ⟨by have := HY.out.1; omega, HY.out.2⟩)
        rcases hsplit with j1 | ⟨j1, j2⟩
        all_goals
          go_wp2_with fail
          go_meet
          exact ⟨sum, ys, vI, rfl, PP.out, HM, PY.out⟩
  case rest =>
    obtain ⟨sum, ys, vI, rfl, PP, HM, PY⟩ := hcut
    obtain ⟨a0, a1, a2, a3, a4, a5, a6, a7, a8⟩ := HM.out.cells
    obtain ⟨⟨u0, u1, u2, u3⟩, fu⟩ := HM.out.bu
    have hz := HM.out.le
    have hzz : w.heap.size < wc.heap.size := by omega
    have hzz1 : w.heap.size + 1 + 1 < wc.heap.size := by omega
    obtain ⟨ny, hny⟩ : ∃ n, ys.length = n := ⟨_, rfl⟩
    have HNY := Lib.hid hny
    obtain ⟨AI, cI, hvI⟩ := HM.out.ins.ins.form
    rw [hny] at hvI
    subst hvI
    have wf := ZO.out.2.2.2.1
    have hfr := fu 1
    have hfr3 := fu 3
    have wh : IntKind.u32.wrap h = h := IntWalk.u32_in _ (by omega)
    have wfe : IntKind.i64.wrap (100000 + z.fee) = 100000 + z.fee := IntWalk.i64_in _ (by omega)
    have WF := Lib.hid wf
    clear hny
    obtain ⟨gb, hgb⟩ : ∃ b, z.gr = b := ⟨_, rfl⟩
    rw [hgb] at a7
    go_upto_if 81 with (fail)
    all_goals
      go_cut [8] (fun s8 wx => ∃ (sum lock : Int) (ys : List InD) (vI : Value), s8 = .int .i64 sum ∧ Hid (0 ≤ sum ∧ sum ≤ 8400000000000000) ∧ Hid (0 ≤ lock ∧ lock ≤ 1000000) ∧ Hid (MkSt w z (.slice As ns cs) ys [] lock vI (.slice none 0 0) wx) ∧ Hid (ys.length ≤ 4 ∧ ∀ y ∈ ys, y.Ok))
      case first =>
        have G0 := ((HM.out.grant ⟨#[0, 0, 0, 0, 0, 0, 0, 0, 0, 0, 0, 0, 0, 0, 0, 0, 0, 0, 0, 0, 0, 0, 0, 0, 0, 0, 0, 0, 0, 0, 0, 0]⟩ 4294967295 4294967295).setLock h)
        rw [World.setCell_alloc_past _ _ _ _ hzz1, World.setCell_alloc_past _ _ _ _ (by rw [World.size_setCell]; exact hzz1)] at G0
        have G := Lib.hid G0
        clear G0
        have GY : Hid ([(⟨⟨#[0, 0, 0, 0, 0, 0, 0, 0, 0, 0, 0, 0, 0, 0, 0, 0, 0, 0, 0, 0, 0, 0, 0, 0, 0, 0, 0, 0, 0, 0, 0, 0]⟩, 4294967295, 4294967295, []⟩ : InD)].length ≤ 4 ∧ ∀ y ∈ [(⟨⟨#[0, 0, 0, 0, 0, 0, 0, 0, 0, 0, 0, 0, 0, 0, 0, 0, 0, 0, 0, 0, 0, 0, 0, 0, 0, 0, 0, 0, 0, 0, 0, 0]⟩, 4294967295, 4294967295, []⟩ : InD)], y.Ok) := Lib.hid ⟨by show 1 ≤ 4; omega, fun y hy => by
          obtain rfl := List.mem_singleton.1 hy
          exact ⟨by decide, by decide, by decide, by decide, by decide, by decide, by simp⟩⟩
        by_cases hq : ny = 0
        · have nq : ((ny : Int) == 0) = true := by simp [hq]
          have nq2 : (ny == 0) = true := by simp [hq]
          go_wp2_with fail
          go_meet
          exact ⟨100000 + z.fee, h, _, _, rfl, Lib.hid (by have := WF.out; omega), Lib.hid ⟨h1, h2⟩, G, GY⟩
        · have nq : ((ny : Int) == 0) = false := by simp [hq]
          have nq2 : (ny == 0) = false := by simp [hq]
          go_wp2_with fail
          go_meet
          first
            | exact ⟨100000 + z.fee, h, _, _, rfl, Lib.hid (by have := WF.out; omega), Lib.hid ⟨h1, h2⟩, G, GY⟩
            | exact ⟨sum, 0, ys, _, rfl, PP, Lib.hid (by omega), HM, PY⟩
      case rest =>
        clear a0 a1 a2 a3 a4 a5 a6 a7 a8 u0 u1 u2 u3 fu hfr hfr3 hz hzz hzz1 HM PY PP
        obtain ⟨sum, lock, ys, vI, rfl, PP, PL, HM, PY⟩ := hcut
        obtain ⟨a0, a1, a2, a3, a4, a5, a6, a7, a8⟩ := HM.out.cells
        obtain ⟨⟨u0, u1, u2, u3⟩, fu⟩ := HM.out.bu
        have hfr3 := fu 3
        have hz := HM.out.le
        have hzz : w.heap.size < wc.heap.size := by omega
        have hzz1 : w.heap.size + 1 + 1 < wc.heap.size := by omega
        have wl : IntKind.u32.wrap (lock + 1) = lock + 1 := IntWalk.u32_in _ (by have := PL.out; omega)
        obtain ⟨od, hod⟩ : ∃ b, z.odd = b := ⟨_, rfl⟩
        rw [hod] at a8
        go_upto_if 94 with (fail)
        go_cut [] (fun wx => ∃ lock : Int, Hid (0 ≤ lock ∧ lock ≤ 1000001) ∧ Hid (MkSt w z (.slice As ns cs) ys [] lock vI (.slice none 0 0) wx))
        case first =>
          have L1 := Lib.hid (HM.out.setLock (lock + 1))
          go_wp2_with fail
          all_goals go_meet
          all_goals first
            | exact ⟨lock + 1, Lib.hid (by have := PL.out; omega), L1⟩
            | exact ⟨lock, Lib.hid (by have := PL.out; omega), HM⟩
        case rest =>
          clear a0 a1 a2 a3 a4 a5 a6 a7 a8 u0 u1 u2 u3 fu hfr3 hz hzz hzz1 HM PL wl hod
          obtain ⟨lock, PL, HM⟩ := hcut
          obtain ⟨a0, a1, a2, a3, a4, a5, a6, a7, a8⟩ := HM.out.cells
          have hz := HM.out.le
          have hzz : w.heap.size < wc.heap.size := by omega
          have p0 := ZO.out.2.2.2.2.2.1
          obtain ⟨pn, hpn⟩ : ∃ p : Nat, z.pays.tmod 3 = (p : Int) ∧ p ≤ 2 := ⟨(z.pays.tmod 3).toNat, by
            have h1 := Int.tmod_nonneg (a := z.pays) 3 p0.1
            have h2 := Int.tmod_lt_of_pos z.pays (b := 3) (by omega)
            omega⟩
          obtain ⟨hp1, hp2⟩ := hpn
          obtain ⟨n, hn⟩ : ∃ n : Nat, n = pn + 1 := ⟨_, rfl⟩
          have hn3 : n ≤ 3 := by omega
          have wn : IntKind.i64.wrap (1 + (pn : Int)) = (n : Int) := by rw [IntWalk.i64_in _ (by omega)]; omega
          have wn0 : (1 + (pn : Int)) = (n : Int) := by omega
          have wq : IntKind.i64.wrap (sum - z.fee) = sum - z.fee := IntWalk.i64_in _ (by have := PP.out; have := WF.out; omega)
          have PQ := Lib.hid (show -65535 ≤ sum - z.fee ∧ sum - z.fee ≤ 8400000000000000 from by have := PP.out; have := WF.out; omega)
          clear hn
          go_wp2_with fail
          clear a0 a1 a2 a3 a4 a5 a6 a7 a8
          go_loopg [13, 14] n (fun gg s13 s14 wr => ∃ (i : Nat) (left : Int) (os : List OutD) (vO : Value), i ≤ n ∧ n - i ≤ gg ∧ s13 = .int .i64 left ∧ s14 = .int .i64 (i : Int) ∧ -65535 ≤ left ∧ left ≤ 8400000000000000 ∧ Hid (MkSt w z (.slice As ns cs) ys os lock vI vO wr) ∧ Hid (os.length = i ∧ ∀ x ∈ os, x.Ok))
          case atStart => exact ⟨0, _, [], .slice none 0 0, Nat.zero_le _, by omega, rfl, rfl, PQ.out.1, PQ.out.2, HM, Lib.hid ⟨rfl, by simp⟩⟩
          case round =>
            obtain ⟨i, left, os, vO, hi, hgi, rfl, rfl, hl0, hl1, HR, HO⟩ := hrel
            obtain ⟨a0, a1, a2, a3, a4, a5, a6, a7, a8⟩ := HR.out.cells
            obtain ⟨⟨u0, u1, u2, u3⟩, fu⟩ := HR.out.bu
            have hz' := HR.out.le
            have hzz' : w.heap.size < wr.heap.size := by omega
            have hzz1' : w.heap.size + 1 + 1 < wr.heap.size := by omega
            by_cases hlt : i < n
            · have j1 : (i : Int) < (n : Int) := by omega
              have j2 : decide (i < n) = true := decide_eq_true hlt
              obtain ⟨d, hd⟩ : ∃ d : Nat, n - i = d := ⟨_, rfl⟩
              have wd0 : (n : Int) - (i : Int) = (d : Int) := by omega
              have wd : IntKind.i64.wrap ((n : Int) - (i : Int)) = (d : Int) := by rw [IntWalk.i64_in _ (by omega)]; omega
              have wd1 : IntKind.i64.wrap (d : Int) = (d : Int) := IntWalk.i64_in _ (by omega)
              have dnz : ¬ (d : Int) = 0 := by omega
              obtain ⟨v, hv⟩ : ∃ v, left.tdiv (d : Int) = v := ⟨_, rfl⟩
              have HV := Lib.hid (show (0 ≤ left → 0 ≤ v ∧ v ≤ left) ∧ (left < 0 → v ≤ 0 ∧ -65535 ≤ v) from by
                refine ⟨fun h0 => ?_, fun h0 => ?_⟩
                · have e := Int.tdiv_eq_ediv_of_nonneg (a := left) (b := (d : Int)) h0
                  rw [hv] at e
                  rw [e]
                  exact ⟨Int.ediv_nonneg h0 (by omega), Int.ediv_le_self _ h0⟩
                · have e : (-left).tdiv (d : Int) = -v := by rw [Int.neg_tdiv, hv]
                  rw [Int.tdiv_eq_ediv_of_nonneg (by omega)] at e
                  have e1 := Int.ediv_nonneg (a := -left) (b := (d : Int)) (by omega) (by omega)
                  have e2 := Int.ediv_le_self (a := -left) (d : Int) (by omega)
                  omega)
              have wv : IntKind.i64.wrap v = v := IntWalk.i64_in _ (by have := HV.out; omega)
              clear hd
              go_upto_if 120 with (fail)
              go_cut [15] (fun s15 wx => wx = wr ∧ ∃ v' : Int, s15 = .int .i64 v' ∧ Hid (0 ≤ v' ∧ v' ≤ 8400000000000000 ∧ -65535 ≤ left - v' ∧ left - v' ≤ 8400000000000000))
              case first =>
                by_cases hv0 : v < 0
                · have hvd : decide (v < 0) = true := decide_eq_true hv0
                  go_wp2_with fail
                  go_meet
                  exact ⟨rfl, 0, rfl, Lib.hid (by omega)⟩
                · have hvd : decide (v < 0) = false := decide_eq_false hv0
                  go_wp2_with fail
                  go_meet
                  exact ⟨rfl, v, rfl, Lib.hid (by have := HV.out; omega)⟩
              case rest =>
                obtain ⟨rfl, v', rfl, HV'⟩ := hcut
                have wlv : IntKind.i64.wrap (left - v') = left - v' := IntWalk.i64_in _ (by have := HV'.out; omega)
                have i3 : (i : Int) ≤ 2 := by omega
                clear hv wv HV wd wd0 wd1 dnz
                go_upto_region 28 with (fail)
                have tx8 := text8
                have sz8 : ∀ y0 y1 y2 y3 y4 y5 y6 y7 : Int, (strOfNums [y0, y1, y2, y3, y4, y5, y6, y7]).size = 8 := fun _ _ _ _ _ _ _ _ => by rw [strOfNums_size]; rfl
                have sz1 : (⟨#[1]⟩ : ByteArray).size = 1 := rfl
                obtain ⟨m2, hm2⟩ : ∃ m : Nat, 2 * (i : Int) = (m : Int) := ⟨2 * i, by omega⟩
                have wm2 : IntKind.i64.wrap (2 * (i : Int)) = (m2 : Int) := by rw [IntWalk.i64_in _ (by omega)]; exact hm2
                have wm3 : IntKind.i64.wrap (m2 : Int) = (m2 : Int) := IntWalk.i64_in _ (by omega)
                have nm2 : ¬ (m2 : Int) < 0 := by omega
                go_region
                obtain ⟨W4, hW4⟩ : ∃ W4, W4 = (wc.alloc (.cells #[.int .u8 (wrap64 z.outs / 2 ^ m2 % 256 % 3), .int .u8 0, .int .u8 (z.ht.tmod 3), .int .u8 0, .int .u8 0, .int .u8 0, .int .u8 0, .int .u8 0] 5)).drew := ⟨_, rfl⟩
                obtain ⟨sc, hsc⟩ : ∃ s, s = (⟨#[1]⟩ : ByteArray) ++ strOfNums [wrap64 z.outs / 2 ^ m2 % 256 % 3, 0, z.ht.tmod 3, 0, 0, 0, 0, 0] := ⟨_, rfl⟩
                rw [← hW4, ← hsc]
                have hszc : sc.size ≤ 64 := by rw [hsc, ByteArray.size_append, sz8, sz1]; omega
                have HSC := Lib.hid hszc
                have hb4 : Below wc.heap.size wc W4 := by rw [hW4]; exact ((Below.refl _ _).alloc (Nat.le_refl _) _).drew
                have B4 := Lib.hid hb4
                have hz4 : wc.heap.size < W4.heap.size := by rw [hW4]; simp
                have u2' := (hb4.cell (p := ⟨w.heap.size + 1 + 1, 2, none⟩) (by show w.heap.size + 1 + 1 < wc.heap.size; omega)).trans u2
                have HI := Lib.hid (HR.out.outs.keep (StayE.of_below hb4 (Nat.le_refl _)) (Nat.le_of_lt hz4))
                obtain ⟨cells, hown, hall⟩ := HI.out
                obtain ⟨no, hno⟩ : ∃ n, os.length = n := ⟨_, rfl⟩
                have HNO := Lib.hid hno
                have hno3 : no ≤ 3 := by have := HO.out.1; omega
                have HOW := Lib.hid hown.1
                have HAL := Lib.hid hall
                rw [hno] at HOW
                obtain ⟨AO, cO, rfl⟩ := own_form HOW.out
                clear hown hall HI hno hW4 hsc hszc hb4 a0 a1 a2 a3 a4 a5 a6 a7 a8 u0 u1 u2 u3 fu tx8 sz8 sz1 wm2 wm3 nm2
                go_wp2_with (at_builtin; refine wpList_append_own _ rfl _ _ 49 rfl (w.heap.size + 3) 62 i62 _ 2 24 Tryz.underlying49 hi62 z0 z1 z2 rfl (by decide) _ _ _ rfl (HOW.out.alloc _) ⟨W4.heap.size, 0, none⟩ 1 1 [.int .i64 v', .string sc] rfl rfl (two_new _ _ _ _) (by intro u hu; simp at hu; rcases hu with rfl | rfl <;> rfl) (by unfold maxLen; omega) (by omega) (by simp; omega) ?_; intro v' w1 hown' hgrow _; obtain ⟨A', c', rfl⟩ := own_form hown'; have ho := HR.out.openOut B4.out HOW.out hgrow; have d3' := ho.1.2.2.1; have f3' := ho.2 2)
                go_roundg (n - (i + 1))
                case measure => omega
                case rel =>
                  have e1 := HNO.out
                  subst e1
                  exact ⟨i + 1, _, os ++ [⟨v', sc⟩], _, by omega, by omega, rfl, by go_num, HV'.out.2.2.1, HV'.out.2.2.2, Lib.hid (HR.out.pushOut (x := ⟨v', sc⟩) B4.out HOW.out HAL.out hgrow hown'), Lib.hid ⟨by rw [List.length_append, HO.out.1]; rfl, fun x hx => by
                    rcases List.mem_append.1 hx with hx | hx
                    · exact HO.out.2 x hx
                    · obtain rfl := List.mem_singleton.1 hx
                      exact ⟨by show -9223372036854775808 ≤ v'; have := HV'.out; omega, by show v' ≤ 9223372036854775807; have := HV'.out; omega, HSC.out⟩⟩⟩
            · have k3' : decide (i < n) = false := decide_eq_false hlt
              have k4' : ¬ (i : Int) < (n : Int) := by omega
              obtain rfl : i = n := by omega
              obtain ⟨AI2, cI2, hvi⟩ := HR.out.ins.ins.form
              obtain ⟨AO, cO, hvo⟩ := HR.out.outs.outs.form
              subst hvi hvo
              obtain ⟨⟨e0, e1, e2, e3⟩, fe⟩ := HR.out.br
              have f0 := fe 0
              have f1 := fe 1
              have f2 := fe 2
              have f3 := fe 3
              have hne1 : ¬ w.heap.size + 1 = w.heap.size + 1 + 1 := by omega
              have hze : w.heap.size + 1 < wr.heap.size := by omega
              have EE := Lib.hid (HR.out.ends (.int .u32 2) (.slice AI2 ys.length cI2) (.slice AO os.length cO) (.int .u32 lock))
              clear a0 a1 a2 a3 a4 a5 a6 a7 a8
              go_wp2_with fail
              refine bodyPost_ret (v := .agg #[.int .u32 2, .slice AI2 ys.length cI2, .slice AO os.length cO, .int .u32 lock]) (by simp [results, Tryz.results31, go_sem, e0, e1, e2, e3]) rfl ?_
              exact ⟨⟨2, ys, os, lock⟩, _, _, rfl, EE.out.1, ⟨by have := PY.out.1; show ys.length ≤ 512; omega, by have := HO.out.1; show os.length ≤ 512; omega, PY.out.2, HO.out.2, by show (0 : Int) ≤ 2; omega, by show (2 : Int) ≤ 4294967295; omega, PL.out.1, by have := PL.out.2; show lock ≤ 4294967295; omega⟩, by have := HO.out.1; show os.length ≤ 3; omega, EE.out.2⟩

end Go.Proofs.YtnmfjnfdnjjngaaGreatDoor
