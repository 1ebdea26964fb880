/-
  The statement CheckKeeps, walked.
  Proved: for every input the statement CheckKeeps answers true and leaves its arguments as they were. Conditions: the package-level variable errors.errorType holds when the call begins what the program's text lays in it (the card ties that to the text of the pruned copy).
-/
import Derived.Test.YtjclklppnkoehaaDoorRlong
import Derived.Test.YtjclklppnkoehaaDoorTka
import Derived.Test.YtjclklppnkoehaaDoorMad
import Derived.Test.YtjclklppnkoehaaDoorRdj
import Derived.WalkKit
import Derived.ProofKit
import Derived.OpenShut
import Derived.ShutString
import Derived.ChangeOld
import Derived.Lib.SmallJoins
import Derived.Below
import Derived.SizedLaws
import Derived.Handed
import Derived.LaidMore
import Derived.SevenTiedAt
import Derived.Test.YtjclklppnkoehaaDoorRows
import Derived.Test.YtjclklppnkoehaaDoorCards
import Derived.Test.YtjclklppnkoehaaDoorTie

namespace Go.Proofs.YtjclklppnkoehaaDoor
open Go.RowKit
set_option maxRecDepth 100000

theorem Lst.wide {α : Type} {At At' : World → Nat → Nat → α → Prop} {sz : Nat} {w : World} {lo hi hi' : Nat} {v : Value} {xs : List α} (h : Lst At sz w lo hi v xs) (ha : ∀ b o x, At w b o x → At' w b o x) (hh : hi ≤ hi') : Lst At' sz w lo hi' v xs := by
  obtain ⟨A, c, rfl, hc, h⟩ := h
  refine ⟨A, c, rfl, hc, ?_⟩
  rcases h with h | ⟨b, off, rfl, h1, h2, h⟩
  · exact .inl h
  · exact .inr ⟨b, off, rfl, h1, by omega, fun k s hs => ha _ _ _ (h k s hs)⟩
theorem JobAt.wide {w : World} {hi hi' : Nat} {vc vs vo : Value} {z : JobD} (h : JobAt w hi vc vs vo z) (hh : hi ≤ hi') : JobAt w hi' vc vs vo z :=
  ⟨Lst.wide h.cns (fun _ _ _ ⟨c0, c1, c2, c3, ⟨v, c4, hv⟩, c5, c6⟩ => ⟨c0, c1, c2, c3, ⟨v, c4, hv.wide (Nat.le_refl _) hh⟩, c5, c6⟩) hh,
   Lst.wide h.sps (fun _ _ _ ⟨c0, c1, c2, c3, hi', c8⟩ => ⟨c0, c1, c2, c3, hi'.wide (Nat.le_refl _) hh, c8⟩) hh,
   h.outs.wide (Nat.le_refl _) hh⟩
/-- The greater one of 0 and a number. -/
def pos (x : Int) : Int := if x > 0 then x else 0
theorem pos_ge (x : Int) : 0 ≤ pos x := by unfold pos; split <;> omega
theorem pos_le {x : Int} (h : x ≤ 9223372036854775807) : pos x ≤ 9223372036854775807 := by unfold pos; split <;> omega
theorem run_max0 (x : Int) (w : World) : (Builtin.max_ #[3, 3] 3 #[.int .i64 0, .int .i64 x]).run Tryd.prog w = .ok (.int .i64 (pos x)) w := by
  rw [run_max_int2 w #[3, 3] 3 .i64 .i64 0 x]
  rfl
/-- The height that the statements look at. -/
def hgt (x : Int) : Int := pos x % 400
theorem hgt_bd (x : Int) : 0 ≤ hgt x ∧ hgt x ≤ 399 := by unfold hgt; omega
theorem ErrV.fault {lo : Nat} {w : World} {v : Value} {c a : Int} (h : ErrV lo w v c a) (hc : c ≠ 0) : ∃ T x, v = .iface T x ∧ (T = 51 ∨ T = 116) := by
  rcases h with ⟨h, _⟩ | ⟨_, _, rfl⟩ | ⟨_, _, b, rfl, _⟩
  · exact absurd h hc
  · exact ⟨_, _, rfl, .inl rfl⟩
  · exact ⟨_, _, rfl, .inr rfl⟩
theorem neq_err {T : TypeId} (hT : T = 51 ∨ T = 116) (x : Value) (w : World) : (binOp .neq 38 (.iface T x) .nilIface).run Tryd.prog w = .ok (.bool true) w := by
  rcases hT with rfl | rfl
  · exact neq_num x w
  · exact neq_fault x w
theorem ErrV.none {lo : Nat} {w : World} {v : Value} {a : Int} (h : ErrV lo w v 0 a) : v = .nilIface := by
  rcases h with ⟨_, _, h⟩ | ⟨h, _⟩ | ⟨h, _⟩
  · exact h
  · exact absurd rfl h
  · exact absurd rfl h

/-- A set beside a transaction in its box. -/
structure KSt (w w3 : World) (sa sb g lo hi : Nat) (t : TxD) (vi vo : Value) (m : List Co.EnD) (wr : World) : Prop where
  set : Co.SetIs wr sa sb m
  tx : TxAt wr lo hi vi vo t
  box : Boxed wr g (.int .u32 t.ver) vi vo (.int .u32 t.lock)
  bel : Below w.heap.size w wr
  size : w3.heap.size ≤ wr.heap.size
/-- How their blocks lie. -/
structure KLie (w w3 : World) (sa sb g lo hi : Nat) : Prop where
  a : w.heap.size ≤ sa
  b : w.heap.size ≤ sb
  al : sa < lo
  bl : sb < lo
  lh : lo ≤ hi
  hg : hi ≤ g
  gs : g < w3.heap.size
theorem KSt.below {w w3 : World} {sa sb g lo hi : Nat} {t : TxD} {vi vo : Value} {m : List Co.EnD} {wr wr' : World} (h : KSt w w3 sa sb g lo hi t vi vo m wr) (hl : KLie w w3 sa sb g lo hi) (hb : Below wr.heap.size wr wr') : KSt w w3 sa sb g lo hi t vi vo m wr' := by
  have hs := h.size
  obtain ⟨l1, l2, l3, l4, l5, l6, l7⟩ := hl
  exact ⟨h.set.below hb h.set.lta h.set.ltb, h.tx.keep (Kept.of_below hb (by omega)), h.box.below (by omega) hb, below_next h.bel h.bel.size hb, by have := hb.size; omega⟩
theorem KSt.turn {w w3 : World} {sa sb g lo hi : Nat} {t : TxD} {vi vo : Value} {m m' : List Co.EnD} {wr wr' : World} (h : KSt w w3 sa sb g lo hi t vi vo m wr) (hl : KLie w w3 sa sb g lo hi) (hs : Co.SetIs wr' sa sb m') (hb : Co.But2 sa sb wr wr') : KSt w w3 sa sb g lo hi t vi vo m' wr' := by
  have hz := h.size
  obtain ⟨l1, l2, l3, l4, l5, l6, l7⟩ := hl
  have e := fun o => World.cell?_of_block (w := wr) (a := ⟨g, o, none⟩) (hb.block g (by omega) (by omega) (by omega))
  obtain ⟨b0, b1, b2, b3⟩ := h.box
  exact ⟨hs, h.tx.keep (hb.kept (.inl l3) (.inl l4) (by omega)), ⟨(e 0).trans b0, (e 1).trans b1, (e 2).trans b2, (e 3).trans b3⟩, Co.But2.below h.bel hb l1 l2 h.bel.size, by have := hb.size; omega⟩

set_option maxHeartbeats 4000000 in
theorem keeps_law (z : JobD) (vc vs vo : Value) (w : World) (hz : JobAt w w.heap.size vc vs vo z) (hok : z.Ok) (hd : ErrDoor w) : Calls Tryd.prog 3 #[jobV z vc vs vo] w fun e w' => e = .returned (.bool true) ∧ Below w.heap.size w w' := by
  obtain ⟨w0, hw0⟩ : ∃ w0, w0 = w.alloc (.cells #[vc, vs, vo, .int .u32 z.ver, .int .u32 z.lock, .int .i64 z.ht] 27) := ⟨_, rfl⟩
  have z0 : w0.heap.size = w.heap.size + 1 := by rw [hw0]; simp
  have hb0 : Below w.heap.size w w0 := by rw [hw0]; exact (Below.refl _ _).alloc (Nat.le_refl _) _
  have hn0 := hw0 ▸ heap_alloc_new w (.cells #[vc, vs, vo, .int .u32 z.ver, .int .u32 z.lock, .int .i64 z.ht] 27)
  have QB := Lib.hid (fun (V : World) (hV : Below w0.heap.size w0 V) (o : Nat) (v : Value) (hv : (#[vc, vs, vo, .int .u32 z.ver, .int .u32 z.lock, .int .i64 z.ht] : Array Value)[o]? = some v) => (hV.cell (p := ⟨w.heap.size, o, none⟩) (by show w.heap.size < _; omega)).trans (Co.cell_in hn0 hv))
  have JB := Lib.hid (fun (V : World) (hV : Below w0.heap.size w0 V) => (hz.keep (Kept.of_below (hb0.trans (hV.mono (by omega))) (Nat.le_refl _))).wide (show w.heap.size ≤ V.heap.size by have := hV.size; omega))
  have HOK := Lib.hid hok
  have B0 := Lib.hid hb0
  have HW0 := Lib.hid hw0
  have DD := Lib.hid (fun (V : World) (hV : Below w.heap.size w V) => hd.below hV hd.lt)
  have CH := Lib.hid (held_any z vc vs vo w0 (JB.out w0 (Below.refl _ _)) hok)
  have hht := hok.ht
  obtain ⟨q0, q1, q2, q3, q4, q5⟩ : _ ∧ _ ∧ _ ∧ _ ∧ _ ∧ _ := ⟨QB.out w0 (Below.refl _ _) 0 _ rfl, QB.out w0 (Below.refl _ _) 1 _ rfl, QB.out w0 (Below.refl _ _) 2 _ rfl, QB.out w0 (Below.refl _ _) 3 _ rfl, QB.out w0 (Below.refl _ _) 4 _ rfl, QB.out w0 (Below.refl _ _) 5 _ rfl⟩
  have hmx := run_max0 z.ht
  have pg := pos_ge z.ht
  have pl := pos_le hht.2
  obtain ⟨ht, hhe⟩ : ∃ h, hgt z.ht = h := ⟨_, rfl⟩
  have hbd := hgt_bd z.ht
  rw [hhe] at hbd
  have hr1 : (pos z.ht).tmod 400 = ht := by rw [← hhe]; exact Int.tmod_eq_emod_of_nonneg pg
  have hr2 : IntKind.i64.wrap ht = ht := IntWalk.i64_in _ (by omega)
  have hr3 : ¬ (400 : Int) = 0 := by decide
  have HBD := Lib.hid hbd
  unfold jobV at *
  have Z0 := Lib.hid z0
  clear z0
  clear hz hok hd hw0 hb0 hn0 hht hhe pl hbd
  go_enter Tryd.func3, Tryd.ntmps3
  go_upto_region 1 with (fail)
  rw [show World.alloc w _ = w0 from HW0.out.symm]
  go_wp2_with fail
  refine CH.out.mono ?_
  rintro e w1 ⟨l, vl, rfl, hs1, _, _, hb1⟩
  obtain ⟨sa, hsa⟩ : ∃ a, w0.heap.size + 2 = a := ⟨_, rfl⟩
  obtain ⟨sb, hsb⟩ : ∃ a, w0.heap.size + 1 = a := ⟨_, rfl⟩
  rw [hsa] at hs1 ⊢
  rw [hsb] at hs1
  have S1 := Lib.hid hs1
  have L1 := Lib.hid hb1
  have z1 := hb1.size
  have l1 := hs1.lta
  have CG := Lib.hid (spending_any z vc vs vo w1 (JB.out w1 hb1) HOK.out)
  clear hs1 hb1 CH q0 q1 q2 q3 q4 q5
  obtain ⟨q0, q1, q2, q3, q4, q5⟩ : _ ∧ _ ∧ _ ∧ _ ∧ _ ∧ _ := ⟨QB.out w1 L1.out 0 _ rfl, QB.out w1 L1.out 1 _ rfl, QB.out w1 L1.out 2 _ rfl, QB.out w1 L1.out 3 _ rfl, QB.out w1 L1.out 4 _ rfl, QB.out w1 L1.out 5 _ rfl⟩
  unfold jobV at CG
  go_wp2_with fail
  refine CG.out.mono ?_
  rintro e w2 ⟨t, vi, vto, rfl, ht2, hok2, hb2⟩
  have z2 := hb2.size
  obtain ⟨Ai, ci, rfl⟩ := ht2.1.form
  obtain ⟨Ao, co, rfl⟩ := ht2.2.form
  obtain ⟨w3, hw3⟩ : ∃ w3, w3 = w2.alloc (.cells #[.int .u32 t.ver, .slice Ai t.ins.length ci, .slice Ao t.outs.length co, .int .u32 t.lock] 34) := ⟨_, rfl⟩
  have z3 : w3.heap.size = w2.heap.size + 1 := by rw [hw3]; simp
  have hb3 : Below w2.heap.size w2 w3 := by rw [hw3]; exact (Below.refl _ _).alloc (Nat.le_refl _) _
  have XB := Lib.hid (show Boxed w3 w2.heap.size (.int .u32 t.ver) (.slice Ai t.ins.length ci) (.slice Ao t.outs.length co) (.int .u32 t.lock) from by rw [hw3]; exact Boxed.new _ _ _ _ _ _)
  have XT := Lib.hid (ht2.keep (Kept.of_below hb3 (Nat.le_refl _)))
  have OKT := Lib.hid hok2
  have S3 := Lib.hid ((S1.out.below hb2 (by omega) (by omega)).below hb3 (by omega) (by omega))
  have L3 := Lib.hid (below_next (below_next L1.out L1.out.size hb2) (by omega) hb3)
  have B3 := Lib.hid (B0.out.trans (L3.out.mono (by have := Z0.out; omega)))
  have HW3 := Lib.hid hw3
  clear q0 q1 q2 q3 q4 q5 CG ht2 hok2 hb2 hb3 hw3
  have q5 := QB.out w3 L3.out 5 _ rfl
  have CF := Lib.hid (fun V (hV : Below w3.heap.size w3 V) => fee_any _ _ l t ht _ _ V (S3.out.below hV (by omega) (by omega)) ((XT.out.keep (Kept.of_below hV (by omega))).wide (Nat.zero_le _) (show w2.heap.size ≤ V.heap.size by have := hV.size; omega)) OKT.out)
  have CL := Lib.hid (fun V (hV : Below w3.heap.size w3 V) => Co.len_any _ _ l V (S3.out.below hV (by omega) (by omega)))
  have CT := Lib.hid (fun V (hV : Below w3.heap.size w3 V) => Co.total_any _ _ l V (S3.out.below hV (by omega) (by omega)))
  have CW := Lib.hid (fun V (hV : Below w.heap.size w V) => wakes_any V (DD.out V hV))
  obtain ⟨b0, b1, b2, b3⟩ := XB.out
  go_upto_region 3 with (fail)
  rw [show World.alloc w2 _ = w3 from HW3.out.symm]
  go_wp2_with fail
  refine (CL.out w3 (Below.refl _ _)).mono ?_
  rintro e w3' ⟨rfl, rfl⟩
  go_wp2_with fail
  refine (CT.out w3' (Below.refl _ _)).mono ?_
  rintro e w4 ⟨rfl, rfl⟩
  obtain ⟨A, hA⟩ : ∃ A, feA l t ht = A := ⟨_, rfl⟩
  have CF3 := Lib.hid (CF.out w4 (Below.refl _ _))
  rw [hA] at CF3
  have HA := Lib.hid hA
  clear hA q5
  go_wp2_with fail
  refine CF3.out.mono ?_
  rintro e w5 ⟨ve, rfl, he, hb5⟩
  have L5 := Lib.hid hb5
  have E5 := Lib.hid he
  have B5 := Lib.hid (below_next B3.out B3.out.size hb5)
  clear hb5 he CF3 b0 b1 b2 b3
  obtain ⟨tl, htl⟩ : ∃ x, Co.tot l = x := ⟨_, rfl⟩
  rw [htl] at CT ⊢
  obtain ⟨ll, hll⟩ : ∃ x, (l.length : Int) = x := ⟨_, rfl⟩
  rw [hll] at CL ⊢
  clear htl hll
  go_wp2_with fail
  refine (CL.out w5 L5.out).mono ?_
  rintro e w6 ⟨rfl, rfl⟩
  go_wp2_with fail
  refine (CT.out w6 L5.out).mono ?_
  rintro e w7 ⟨rfl, rfl⟩
  by_cases hc : A.code = 0
  · obtain ⟨k1, k2, k3, k4, k5, k6⟩ := fe_has (l := l) (t := t) (h := ht) (by rw [HA.out]; exact hc)
    obtain ⟨m1, m2, m3⟩ := check_ok k1
    have FE := Lib.hid (show A.fee = sumV l t.ins - (totalD t.outs).1 from by rw [← HA.out, k6])
    obtain rfl : ve = .nilIface := by have h := E5.out; rw [hc] at h; exact h.none
    have hnn := neq_none
    have HL := Lib.hid (show KLie w w4 sa sb w2.heap.size w1.heap.size w2.heap.size from ⟨by have := Z0.out; omega, by have := Z0.out; omega, by have := S1.out.lta; omega, by have := S1.out.ltb; omega, by omega, Nat.le_refl _, by omega⟩)
    have K7 := Lib.hid (show KSt w w4 sa sb w2.heap.size w1.heap.size w2.heap.size t (.slice Ai t.ins.length ci) (.slice Ao t.outs.length co) l w7 from ⟨S3.out.below L5.out (by omega) (by omega), XT.out.keep (Kept.of_below L5.out (by omega)), XB.out.below (by omega) L5.out, B5.out, L5.out.size⟩)
    have OK := Lib.hid k3
    have GV := Lib.hid (And.intro k4 k5)
    have TW := Lib.hid m2
    have SB := Lib.hid (fun k => sumV_bd S3.out.good (t.ins.take k))
    have VB := Lib.hid (spV_bd S3.out.good)
    have GD := Lib.hid S3.out.good
    have FIN := Lib.hid (show sumV l (t.ins.take t.ins.length) = sumV l t.ins from by rw [List.take_length])
    have hn := OKT.out.1
    have DG := Lib.hid (dels_good S3.out.good t)
    obtain ⟨b0, b1, b2, b3⟩ := K7.out.box
    clear hc E5 CF CL CT k3 k4 k5 k6 m2
    obtain ⟨n, hne⟩ : ∃ n, t.ins.length = n := ⟨_, rfl⟩
    have HNE := Lib.hid hne
    rw [hne] at b1 hn ⊢
    clear hne
    go_wp2_with fail
    clear b0 b1 b2 b3
    go_loopg [11, 61] n (fun gg s11 s61 wr => ∃ k : Nat, k ≤ n ∧ n - k ≤ gg ∧ s61 = .int .i64 (k : Int) ∧ s11 = .int .i64 (sumV l (t.ins.take k)) ∧ Hid (KSt w w4 sa sb w2.heap.size w1.heap.size w2.heap.size t (.slice Ai t.ins.length ci) (.slice Ao t.outs.length co) (dels l t k) wr))
    case atStart => exact ⟨0, Nat.zero_le _, by omega, rfl, rfl, K7⟩
    case round =>
      obtain ⟨k, hk, hgk, rfl, rfl, HK⟩ := hrel
      by_cases hlt : k < n
      · have j1 : (k : Int) < (n : Int) := by omega
        have j2 : decide (k < n) = true := decide_eq_true hlt
        have j3 : ¬ (k : Int) < 0 := by omega
        obtain ⟨x, hx⟩ : ∃ x, t.ins[k]? = some x := ⟨_, List.getElem?_eq_getElem (by rw [HNE.out]; exact hlt)⟩
        obtain ⟨bi, oi, rfl, g1, g2, c0, c1, c2, u, c3, hst⟩ := HK.out.tx.1.at hx
        obtain ⟨Au, cu, rfl⟩ : ∃ A c, u = Value.slice A x.wit.length c := by obtain ⟨A, c, rfl, _⟩ := hst; exact ⟨A, c, rfl⟩
        obtain ⟨i1, i2, i3, _⟩ := OKT.out.2.2.1 x (List.mem_of_getElem? hx)
        obtain ⟨e1, e2, e3⟩ := spE_ok (OK.out k x (by rw [HNE.out]; exact hlt) hx)
        obtain ⟨d1, d2⟩ := dels_at (l := l) TW.out hx k (Nat.le_refl _)
        obtain ⟨w8, hw8⟩ : ∃ w8, w8 = wr.alloc (.cells #[.string x.id, .int .u32 x.ix, .int .u32 x.sq, .slice Au x.wit.length cu] 46) := ⟨_, rfl⟩
        have hb8 : Below wr.heap.size wr w8 := by rw [hw8]; exact (Below.refl _ _).alloc (Nat.le_refl _) _
        have z8 : w8.heap.size = wr.heap.size + 1 := by rw [hw8]; simp
        have y0 : w8.cell? ⟨wr.heap.size, 0, none⟩ = some (.string x.id) := by rw [hw8]; simp
        have y1 : w8.cell? ⟨wr.heap.size, 1, none⟩ = some (.int .u32 x.ix) := by rw [hw8]; simp
        have K8 := Lib.hid (HK.out.below HL.out hb8)
        have CT := Lib.hid (Co.take_any sa sb (dels l t k) x.id x.ix w8 K8.out.set ⟨i1, i2, i3⟩)
        have cs := at_scr GD.out x.id x.ix
        have SV := Lib.hid (show spV l x = (Co.atE l x.id x.ix).val from rfl)
        have DS := Lib.hid (dels_step (l := l) hx)
        have SS := Lib.hid (sumV_step (l := l) hx)
        have sb1 := SB.out k
        have vb := VB.out x
        have hmn : ((t.ins.take k).length : Int) ≤ 512 := by simp; omega
        rw [d2, show Co.takeE (dels l t k) x.id x.ix = 0 from by unfold Co.takeE; rw [d1, if_pos e1]] at CT
        obtain ⟨y, hy⟩ : ∃ y, Co.atE l x.id x.ix = y := ⟨_, rfl⟩
        rw [hy] at CT SV cs e2 e3
        obtain ⟨yi, yx, yv, ys, yt⟩ := y
        simp only at CT SV cs e2 e3
        have EO := Lib.hid ((op_at (s := ys) hx).trans e2)
        have ER := Lib.hid ((rp_at (c := yt) (h := ht) hx).trans e3)
        rw [SV.out] at SS vb
        have HW8 := Lib.hid hw8
        have sm0 : sumV l (t.ins.take k) ≤ 512 * 2100000000000000 := by omega
        generalize sumV l (t.ins.take k) = sm at *
        have wr0 : IntKind.i64.wrap (sm + yv) = sm + yv := by rw [IntWalk.i64_in _ (by omega)]
        have hbw : bi < wr.heap.size := by have := HK.out.size; omega
        have HX := Lib.hid hx
        clear hx hst hw8 hy d1 d2 e1 e2 e3 hmn hb8
        go_upto_region 14 with (fail)
        rw [show World.alloc wr _ = w8 from HW8.out.symm]
        clear c0 c1 c2 c3
        go_wp2_with fail
        refine CT.out.mono ?_
        rintro e w9 ⟨rfl, hs9, hk9⟩
        have K9 := Lib.hid (K8.out.turn HL.out hs9 hk9)
        rw [← DS.out] at K9
        obtain ⟨wa, hwa⟩ : ∃ wa, wa = w9.alloc (.cells #[.int .i64 yv, .string ys, .int .i64 yt] 50) := ⟨_, rfl⟩
        have hba : Below w9.heap.size w9 wa := by rw [hwa]; exact (Below.refl _ _).alloc (Nat.le_refl _) _
        have za : wa.heap.size = w9.heap.size + 1 := by rw [hwa]; simp
        have o0 : wa.cell? ⟨w9.heap.size, 0, none⟩ = some (.int .i64 yv) := by rw [hwa]; simp
        have o1 : wa.cell? ⟨w9.heap.size, 1, none⟩ = some (.string ys) := by rw [hwa]; simp
        have o2 : wa.cell? ⟨w9.heap.size, 2, none⟩ = some (.int .i64 yt) := by rw [hwa]; simp
        have KA := Lib.hid (K9.out.below HL.out hba)
        have HWA := Lib.hid hwa
        have CO := Lib.hid (open_any ys t (k : Int) _ _ wa (KA.out.tx.wide (Nat.zero_le _) (by have := KA.out.size; omega)) OKT.out cs)
        rw [EO.out] at CO
        obtain ⟨b0, b1, b2, b3⟩ := KA.out.box
        rw [HNE.out] at b1 CO
        clear hs9 hk9 hwa hba CT y0 y1
        go_upto_region 15 with (fail)
        rw [show World.alloc w9 _ = wa from HWA.out.symm]
        go_wp2_with fail
        refine CO.out.mono ?_
        rintro e wb ⟨rfl, hbb⟩
        have KB := Lib.hid (KA.out.below HL.out hbb)
        have zb := hbb.size
        have o0' := (hbb.cell (p := ⟨w9.heap.size, 0, none⟩) (by show w9.heap.size < _; omega)).trans o0
        have o2' := (hbb.cell (p := ⟨w9.heap.size, 2, none⟩) (by show w9.heap.size < _; omega)).trans o2
        have CR := Lib.hid (ripe_any t (k : Int) yt ht _ _ wb (KB.out.tx.wide (Nat.zero_le _) (by have := KB.out.size; omega)) OKT.out)
        rw [ER.out] at CR
        clear b0 b1 b2 b3 hbb CO o0 o1 o2
        obtain ⟨b0, b1, b2, b3⟩ := KB.out.box
        rw [HNE.out] at b1 CR
        go_wp2_with fail
        refine CR.out.mono ?_
        rintro e wd ⟨rfl, hbd⟩
        have KD := Lib.hid (KB.out.below HL.out hbd)
        have o0 := (hbd.cell (p := ⟨w9.heap.size, 0, none⟩) (by show w9.heap.size < _; omega)).trans o0'
        clear b0 b1 b2 b3 hbd CR o0' o2'
        go_wp2_with fail
        go_roundg (n - (k + 1))
        case measure => omega
        case rel => exact ⟨k + 1, by omega, by omega, by go_num, congrArg (Value.int .i64) SS.out.symm, KD⟩
      · have k2' : decide (k < n) = false := decide_eq_false hlt
        have k3' : decide ((k : Int) < (n : Int)) = false := decide_eq_false (by omega)
        obtain rfl : k = n := by omega
        obtain ⟨b0, b1, b2, b3⟩ := HK.out.box
        have CT := Lib.hid (total_any t (.slice Ai t.ins.length ci) (.slice Ao t.outs.length co) wr w1.heap.size w2.heap.size HK.out.tx.2 (by have := HK.out.size; omega) OKT.out.2.1)
        have td := total_fits t.outs
        have FN := Lib.hid (show sumV l (t.ins.take k) = sumV l t.ins from by rw [← FIN.out, HNE.out])
        have sb1 := SB.out k
        have gv := GV.out.2
        have hmn : ((t.ins.take k).length : Int) ≤ 512 := by simp; omega
        rw [m3] at CT
        have F1 := FE.out
        rw [← FN.out] at F1 gv
        have sm0 : sumV l (t.ins.take k) ≤ 512 * 2100000000000000 := by omega
        generalize sumV l (t.ins.take k) = sm at *
        generalize (totalD t.outs).1 = tt at *
        have wr0 : IntKind.i64.wrap (sm - tt) = sm - tt := by rw [IntWalk.i64_in _ (by omega)]
        have f0 : decide (0 ≤ A.fee) = true := decide_eq_true (by omega)
        have f1 : (sm - tt == A.fee) = true := by simp [F1]
        have f2 : 0 ≤ A.fee := by omega
        generalize A.fee = fe at *
        rw [HNE.out] at b1 CT
        go_wp2_with fail
        refine CT.out.mono ?_
        rintro e wb ⟨rfl, hbb⟩
        have KB := Lib.hid (HK.out.below HL.out hbb)
        clear b0 b1 b2 b3 hbb CT
        go_wp2_with fail
        refine (CW.out wb KB.out.bel).mono ?_
        rintro e wd ⟨rfl, hbd⟩
        have KD := Lib.hid (KB.out.below HL.out hbd)
        have CBs := Lib.hid (base_any t (.slice Ai t.ins.length ci) (.slice Ao t.outs.length co) wd w1.heap.size w2.heap.size KD.out.tx.1 (by have := KD.out.size; omega))
        rw [k2] at CBs
        obtain ⟨b0, b1, b2, b3⟩ := KD.out.box
        rw [HNE.out] at b1 CBs
        clear hbd
        go_wp2_with fail
        refine CBs.out.mono ?_
        rintro e we ⟨rfl, hbe⟩
        have BE := Lib.hid (below_next KD.out.bel KD.out.bel.size hbe)
        clear hbe
        go_wp2_with fail
        go_ret
        exact ⟨rfl, BE.out⟩
  · obtain ⟨T, xv, rfl, hT⟩ := E5.out.fault hc
    have hne := neq_err hT
    have F0 : A.fee = 0 := by rw [← HA.out]; exact fe_fee0 (by rw [HA.out]; exact hc)
    rw [F0]
    clear hc E5 hT
    go_wp2_with fail
    refine (CW.out w7 B5.out).mono ?_
    rintro e w8 ⟨rfl, hb8⟩
    go_wp2_with fail
    go_ret
    exact ⟨rfl, below_next B5.out B5.out.size hb8⟩

end Go.Proofs.YtjclklppnkoehaaDoor

namespace Go.Proofs.YtjclklppnkoehaaDoor.checkKeeps
open Go.ChangeShapes Go.WideShapes Go.ChangeAt Go.RowKit Go.Joins
set_option linter.unusedVariables false
set_option maxRecDepth 100000

theorem own : ownKnob Tryd.prog.godebug = none := by kernel_rfl

/-! The row's step. -/
theorem lifted (os : Os) (started : os.Started) (H : Type) (enc : TypeId × Value → H) :
    ReturnsInHanded {} Tryd.checked os 3 .any (fun w args => (Rows.checkKeepsSpec.pre enc Tryd.prog Tryd.f3 [] false w args ∧ laidMetH Tryd.prog laid1 w) ∧ sizedMet enc Tryd.prog Tryd.f3 (OpenSpec.ofChange Rows.checkKeepsSpec) false w args)
      (Rows.checkKeepsSpec.post enc Tryd.prog Tryd.f3 false true false false) := by
  refine returnsInHanded_of_change_and (C := Tryd.checked) (X := fun w _ => laidMetH Tryd.prog laid1 w) (fun _ _ _ hh h => h.of_heap hh) own started (by kernel_rfl) Tryd.func3
    (ChangeSpec.witness_shaped (enc := enc) (C := Tryd.checked) (os := os) (X := fun w _ => laidMetH Tryd.prog laid1 w) false (laidWorld os) #[.agg #[.slice none 0 0, .slice none 0 0, .slice none 0 0, .int .u32 0, .int .u32 0, .int .i64 0]] 8 rfl (World.shaped_of_RefB (by kernel_rfl) (by kernel_rfl)) (by kernel_rfl) (by kernel_rfl) (by kernel_rfl) (laidWorld_met os _)) ?_
  intro W base args ds gs before hval0 hW hcnd hsz0 hL _
  have hval : ∀ (j : Nat) t v, Tryd.f3.params[j]? = some t → args[j]? = some v → Value.okWide Tryd.prog W .any base t v := hval0
  have hW' := hW
  obtain ⟨p, q, hA0, hV, rfl, hfz, hnd⟩ := hW
  have hA : DataW.TrodAll enc Tryd.prog W 0 (fun _ => true) true Tryd.f3.params.toList args.toList ds p := hA0
  rw [Tryd.params3] at hA hval
  obtain ⟨v0, vs0, d0, ds0, p0, q0, hargs, rfl, rfl, h0, r0⟩ := trodAll_cons hA
  obtain ⟨rfl, rfl, rfl⟩ := trodAll_nil r0
  obtain rfl : args = #[v0] := by cases args; simp_all
  obtain ⟨rfl, rfl⟩ := trodVars_none hV
  have lt0 : ∀ x ∈ p0, x.block < W.heap.size := by obtain ⟨m, hm⟩ := h0; exact DataW.trod_lt m _ _ _ hm
  obtain ⟨z, vc, vs, vo, rfl, hz, hzok⟩ := rd_job (hval 0 27 v0 rfl rfl) h0
  clear hA0 hval0
  refine (keeps_law z vc vs vo W hz hzok (errdoor_of hL)).mono fun e W' ⟨he, bel⟩ => ?_
  subst he
  exact ⟨_, rfl, _, _, _, [], _, [], hW', trodAll_mk1 (shut_bool Tryd.underlying4 _), (trodAll_cons_mk (Below.trod laidOut (by kernel_rfl) (of_decide_eq_true (by kernel_rfl)) h0 bel lt0) trodAll_mk0), rfl, bel.frame _, fun h => by cases h⟩

theorem over : Rows.checkKeepsRow.holds Tryd.pinned (OpenSpec.ofChange Rows.checkKeepsSpec) :=
  OpenClaim.holds_of_wide 3 Tryd.f3 rfl rfl rfl rfl rfl rfl rfl ⟨rfl, rfl, rfl, rfl, rfl⟩ rfl rfl rfl rfl rfl (by kernel_rfl) Tryd.func3 (by kernel_rfl)
    (of_decide_eq_true (by kernel_rfl)) (by unfold Func.isWrapper; first | (rw [if_pos (by decide +kernel)]; kernel_rfl) | (rw [if_neg (by decide +kernel)]; exact ⟨rfl, rfl⟩))
    (fun os started H enc _ => lifted os started H enc)

/-- The row's statement. -/
theorem row : Rows.CheckKeepsSaid :=
  over

/-- The statement: the card, tied to the program's text. -/
theorem proved : Rows.CheckKeepsCardSaid :=
  Claim7.holds_tied_plain_at .later [] [.handle] true (true, "4a5d8b63bfae0bb7f4fe984d8877983e6d4d46f51a3e0299b9c07acefb29bdd0") true
    row (fun _ h => by cases h) (by kernel_rfl) (fun _ h => by cases h) checkKeeps_row_tie rfl ⟨rfl, rfl⟩ (by kernel_rfl) rfl
    (fun f fn hf hfn => by
      obtain rfl : f = 3 := Option.some.inj ((show Tryd.prog.funcNamed "kedge/kedgelaw11.CheckKeeps" = some 3 by kernel_rfl).symm.trans hf) |>.symm
      obtain rfl : fn = Tryd.f3 := (Option.some.inj (Tryd.func3.symm.trans hfn)).symm
      exact ⟨by kernel_rfl, fun j t ht => by
        rw [Tryd.params3] at ht
        have hm : t ∈ [27] := by simpa using Array.mem_of_getElem? ht
        have hall : ([27].all fun u => !Tryd.prog.wantsStandIn u) = true := by kernel_rfl
        exact (show Tryd.prog.wantsStandIn t = false by simpa using List.all_eq_true.1 hall t hm)⟩)
    (by kernel_rfl)
end Go.Proofs.YtjclklppnkoehaaDoor.checkKeeps
