/-
  A fee in a later height; with another Witness; with a coin gone.
  The statement CheckLater, walked.
  Proved: for every input the statement CheckLater answers true and leaves its arguments as they were. Conditions: the package-level variable errors.errorType holds when the call begins what the program's text lays in it (the card ties that to the text of the pruned copy).
-/
import Derived.Test.YtjclklppnkoehaaDoorRlong
import Derived.Test.YtjclklppnkoehaaDoorLsb
import Derived.Test.YtjclklppnkoehaaDoorKwk
import Derived.Test.YtjclklppnkoehaaDoorCopy
import Derived.Test.YtjclklppnkoehaaDoorRdj
import Derived.WalkKit
import Derived.ProofKit
import Derived.OpenShut
import Derived.ShutString
import Derived.ChangeOld
import Derived.Lib.SmallJoins
import Derived.Below
import Derived.SizedLaws
import Derived.Handed
import Derived.LaidMore
import Derived.SevenTiedAt
import Derived.Test.YtjclklppnkoehaaDoorRows
import Derived.Test.YtjclklppnkoehaaDoorCards
import Derived.Test.YtjclklppnkoehaaDoorTie

namespace Go.Proofs.YtjclklppnkoehaaDoor
open Go.RowKit
set_option maxRecDepth 100000

theorem sp_later {l : List Co.EnD} {t : TxD} {h h' : Int} {x : InD} (h1 : h ≤ h') (h2 : h' ≤ 1000000) (he : spE l t h x = 0) : spE l t h' x = 0 := by
  obtain ⟨e1, e2, e3⟩ := spE_ok he
  rw [spE_ripe e1 e2]
  have : (htB (Co.atE l x.id x.ix).ht && htB h' && rpX t x (Co.atE l x.id x.ix).ht h') = true := by
    simp only [Bool.and_eq_true, Bool.or_eq_true, htB, rpX, decide_eq_true_eq] at e3 ⊢
    obtain ⟨⟨⟨a1, a2⟩, ⟨a3, a4⟩⟩, ⟨a5, a6⟩⟩ := e3
    refine ⟨⟨⟨a1, a2⟩, ⟨by omega, h2⟩⟩, ⟨by omega, ?_⟩⟩
    rcases a6 with a6 | a6
    · exact .inl (by omega)
    · exact .inr a6
  rw [this]
  rfl
theorem fe_later {l : List Co.EnD} {t : TxD} {h h' : Int} (h1 : h ≤ h') (h2 : h' ≤ 1000000) (hc : (feA l t h).code = 0) : feA l t h' = feA l t h := by
  obtain ⟨k1, k2, k3, k4, k5, k6⟩ := fe_has hc
  rw [k6]
  exact fe_ok k1 k2 (fun j y hj hy => sp_later h1 h2 (k3 j y hj hy)) k4 k5
/-- What an In that is right finds in other coins, if they have its coin. -/
theorem sp_same {l m : List Co.EnD} {t : TxD} {h : Int} {x : InD} (h1 : Co.hasB m x.id x.ix = Co.hasB l x.id x.ix) (h2 : Co.atE m x.id x.ix = Co.atE l x.id x.ix) : spE m t h x = spE l t h x := by
  unfold spE
  rw [h1, h2]
theorem has_gone {l : List Co.EnD} (a : ByteArray) (i : Int) : Co.hasB (Co.delL l a i) a i = false := by
  unfold Co.hasB Co.delL
  rw [List.any_eq_false]
  intro x hx
  have := (List.mem_filter.1 hx).2
  simpa using this
theorem fe_gone {l : List Co.EnD} {t : TxD} {h : Int} (hc : (feA l t h).code = 0) {i : Nat} {x : InD} (hx : t.ins[i]? = some x) : feA (Co.delL l x.id x.ix) t h = ⟨0, 8, i⟩ := by
  obtain ⟨k1, k2, k3, _⟩ := fe_has hc
  have ht := (check_ok k1).2.1
  have hi := (List.getElem?_eq_some_iff.1 hx).1
  have e := spE_none (l := Co.delL l x.id x.ix) (t := t) (h := h) (x := x) (has_gone _ _)
  rw [fe_bad k1 k2 (fun j y hj hy => by
    have hd := has_del (l := l) (pt_apart ht (by omega : j ≠ i) hy hx)
    rw [sp_same hd.1 hd.2]
    exact k3 j y (by omega) hy) hx (by rw [e]; decide), e]

/-- The transaction with another Witness at an In. -/
def reW (t : TxD) (i : Nat) (x : InD) (ws : List ByteArray) : TxD := ⟨t.ver, t.ins.set i ⟨x.id, x.ix, x.sq, ws⟩, t.outs, t.lock⟩
def key (x : InD) : ByteArray × Int × Int := (x.id, x.ix, x.sq)
theorem re_key {t : TxD} {i : Nat} {x : InD} (hx : t.ins[i]? = some x) (ws : List ByteArray) : (reW t i x ws).ins.map key = t.ins.map key := by
  obtain ⟨hi, rfl⟩ := List.getElem?_eq_some_iff.1 hx
  apply List.ext_getElem?
  intro k
  unfold reW
  simp only [List.getElem?_map, List.getElem?_set]
  by_cases hk : i = k
  · subst hk
    rw [if_pos rfl, if_pos hi, List.getElem?_eq_getElem hi]
    rfl
  · rw [if_neg hk]
theorem re_any {t : TxD} {i : Nat} {x : InD} (hx : t.ins[i]? = some x) (ws : List ByteArray) (p : ByteArray → Int → Int → Bool) : ((reW t i x ws).ins.any fun y => p y.id y.ix y.sq) = t.ins.any fun y => p y.id y.ix y.sq := by
  have e : ∀ l : List InD, (l.any fun y => p y.id y.ix y.sq) = (l.map key).any fun k => p k.1 k.2.1 k.2.2 := fun l => by rw [List.any_map]; rfl
  rw [e, e, re_key hx]
theorem re_len {t : TxD} {i : Nat} {x : InD} (ws : List ByteArray) : (reW t i x ws).ins.length = t.ins.length := by simp [reW]
theorem re_at {t : TxD} {i : Nat} {x : InD} (hx : t.ins[i]? = some x) (ws : List ByteArray) : (reW t i x ws).ins[i]? = some ⟨x.id, x.ix, x.sq, ws⟩ := by
  have hi := (List.getElem?_eq_some_iff.1 hx).1
  simp [reW, hi]
theorem re_other {t : TxD} {i j : Nat} {x : InD} (hj : j ≠ i) (ws : List ByteArray) : (reW t i x ws).ins[j]? = t.ins[j]? := by
  unfold reW
  rw [List.getElem?_set_ne (by omega)]
theorem re_each {t : TxD} {i : Nat} {x : InD} (hx : t.ins[i]? = some x) (ws : List ByteArray) {j : Nat} {y : InD} (hy : (reW t i x ws).ins[j]? = some y) : ∃ z, t.ins[j]? = some z ∧ z.id = y.id ∧ z.ix = y.ix := by
  by_cases hj : j = i
  · subst hj
    rw [re_at hx] at hy
    injection hy with hy
    subst hy
    exact ⟨x, hx, rfl, rfl⟩
  · rw [re_other hj] at hy
    exact ⟨y, hy, rfl, rfl⟩
theorem re_false {t : TxD} {i : Nat} {x : InD} (ws : List ByteArray) {p : InD → Bool} (h : t.ins.any p = false) (hw : p ⟨x.id, x.ix, x.sq, ws⟩ = false) : (reW t i x ws).ins.any p = false := by
  rw [List.any_eq_false] at h ⊢
  intro y hy
  rcases List.mem_or_eq_of_mem_set hy with hy | rfl
  · exact h y hy
  · rw [hw]; simp
theorem re_check {t : TxD} (h : checkD t = 0) {i : Nat} {x : InD} (hx : t.ins[i]? = some x) {ws : List ByteArray} (hm : manyB ws.length = false) (hw : (ws.any fun s => decide (80 < s.size)) = false) : checkD (reW t i x ws) = 0 := by
  cases h1 : countsB t with
  | false => rw [checkD_count h1] at h; cases h
  | true =>
    cases h2 : longB t with
    | true => rw [checkD_long h1 h2] at h; cases h
    | false =>
      cases h3 : pointsB t.ins with
      | false => rw [checkD_form h1 h2 h3] at h; cases h
      | true =>
        cases h4 : twiceB t.ins with
        | true => rw [checkD_twice h1 h2 h3 h4] at h; cases h
        | false =>
          rw [checkD_range h1 h2 h3 h4] at h
          have g1 : countsB (reW t i x ws) = true := by
            unfold countsB at h1 ⊢
            simp only [Bool.and_eq_true, Bool.not_eq_true'] at h1 ⊢
            refine ⟨⟨by rw [re_len]; exact h1.1.1, h1.1.2⟩, re_false ws h1.2 hm⟩
          have g2 : longB (reW t i x ws) = false := by
            unfold longB at h2 ⊢
            simp only [Bool.or_eq_false_iff] at h2 ⊢
            exact ⟨h2.1, re_false ws h2.2 hw⟩
          have g3 : pointsB (reW t i x ws).ins = true := by
            unfold pointsB at h3 ⊢
            rw [re_len, re_any hx ws (fun a b _ => amissB (t.ins.length == 1) a b)]
            exact h3
          have g4 : twiceB (reW t i x ws).ins = false := by
            refine twice_no fun j k y z hkj hy hz => ?_
            obtain ⟨y', hy', a1, a2⟩ := re_each hx ws hy
            obtain ⟨z', hz', b1, b2⟩ := re_each hx ws hz
            rw [Bool.eq_false_iff]
            intro hp
            obtain ⟨c1, c2⟩ := (ptB_iff _ _ _ _).1 hp
            exact pt_apart h4 (by omega : j ≠ k) hy' hz' ⟨a1.trans (c1.trans b1.symm), a2.trans (c2.trans b2.symm)⟩
          rw [checkD_range g1 g2 g3 g4]
          exact h
theorem re_base {t : TxD} {i : Nat} {x : InD} (hx : t.ins[i]? = some x) (ws : List ByteArray) : isBase (reW t i x ws).ins = isBase t.ins := by
  by_cases h1 : t.ins.length = 1
  · have h2 : (reW t i x ws).ins.length = 1 := by rw [re_len]; exact h1
    obtain ⟨y, hy⟩ : ∃ y, t.ins = [y] := List.length_eq_one_iff.1 h1
    obtain ⟨y', hy'⟩ : ∃ y, (reW t i x ws).ins = [y] := List.length_eq_one_iff.1 h2
    have hk := re_key hx ws
    rw [hy, hy'] at hk ⊢
    simp [key] at hk
    show baseB y'.id y'.ix = baseB y.id y.ix
    rw [hk.1, hk.2.1]
  · rw [isBase_len h1, isBase_len (by rw [re_len]; exact h1)]
theorem re_sp {l : List Co.EnD} {t : TxD} {h : Int} {i : Nat} {x : InD} (hx : t.ins[i]? = some x) (ws : List ByteArray) (y : InD) : spE l (reW t i x ws) h y = spE l t h y := by
  have e1 : ∀ s, opX s (reW t i x ws) y = opX s t y := fun s => rfl
  have e2 : ∀ c, rpX (reW t i x ws) y c h = rpX t y c h := fun c => by
    unfold rpX
    rw [show (reW t i x ws).ins.any askB = t.ins.any askB from re_any hx ws (fun _ _ q => q != 4294967295)]
    rfl
  unfold spE
  rw [e1, e2]
/-- Is a script's lock somebody else's? -/
def mineB (s : ByteArray) : Bool := match gtR s with | [] => false | b :: _ => (b.tag != 0) && (b.tag != 999)
theorem sg_is : snB [sgS 0 999] = true ∧ snN [sgS 0 999] = 0 ∧ snT [sgS 0 999] = 999 := ⟨by kernel_rfl, by kernel_rfl, by kernel_rfl⟩
theorem fe_lock {l : List Co.EnD} {t : TxD} {h : Int} (hc : (feA l t h).code = 0) {i : Nat} {x : InD} (hx : t.ins[i]? = some x) (hm : mineB (Co.atE l x.id x.ix).scr = true) : feA l (reW t i x [sgS 0 999]) h = ⟨0, 9, i⟩ := by
  obtain ⟨k1, k2, k3, _⟩ := fe_has hc
  have hi := (List.getElem?_eq_some_iff.1 hx).1
  obtain ⟨e1, _, _⟩ := spE_ok (k3 i x hi hx)
  have ho : opX (Co.atE l x.id x.ix).scr (reW t i x [sgS 0 999]) ⟨x.id, x.ix, x.sq, [sgS 0 999]⟩ = 9 := by
    unfold opX
    have : sbO (Co.atE l x.id x.ix).scr [sgS 0 999] = none := by
      unfold sbO
      unfold mineB at hm
      rw [sg_is.1, sg_is.2.1, sg_is.2.2]
      cases hg : gtR (Co.atE l x.id x.ix).scr with
      | nil => rw [hg] at hm; cases hm
      | cons b r =>
        rw [hg] at hm
        simp only [Bool.and_eq_true, bne_iff_ne] at hm
        simp [fitB, hm.1, hm.2]
    simp only
    rw [this]
  have e : spE l (reW t i x [sgS 0 999]) h ⟨x.id, x.ix, x.sq, [sgS 0 999]⟩ = 9 := by
    rw [spE_open (by exact e1) (by rw [ho]; decide)]
    exact ho
  rw [fe_bad (re_check k1 hx (by decide) (by kernel_rfl)) (by rw [re_base hx]; exact k2) (fun j y hj hy => by
    rw [re_other (by omega)] at hy
    rw [re_sp hx]
    exact k3 j y (by omega) hy) (re_at hx _) (by rw [e]; decide), e]

end Go.Proofs.YtjclklppnkoehaaDoor

namespace Go.Proofs.YtjclklppnkoehaaDoor
open Go.RowKit
set_option maxRecDepth 100000

theorem re_ok {t : TxD} (h : t.Ok) {i : Nat} {x : InD} (hx : t.ins[i]? = some x) : (reW t i x [sgS 0 999]).Ok := by
  obtain ⟨h1, h2, h3, h4, h5⟩ := h
  have hxo := h3 x (List.mem_of_getElem? hx)
  refine ⟨by rw [re_len]; exact h1, h2, fun y hy => ?_, h4, h5⟩
  rcases List.mem_or_eq_of_mem_set hy with hy | rfl
  · exact h3 y hy
  · exact ⟨hxo.1, hxo.2.1, hxo.2.2.1, hxo.2.2.2.1, hxo.2.2.2.2.1, by show (1 : Nat) ≤ 8; omega, fun s hs => by rw [List.mem_singleton.1 hs, sg_sz]; omega⟩
theorem in_past {w w' : World} {g hi hi' o : Nat} {x : InD} (h : InAt w (g + 1) hi g o x) (hg : g < w.heap.size) (hh : hi ≤ w.heap.size) (hb : Below w.heap.size w w') (h2 : hi ≤ hi') : InAt w' (g + 1) hi' g o x := by
  obtain ⟨c0, c1, c2, u, c3, hs⟩ := h
  have e := fun (o : Nat) => hb.cell (p := ⟨g, o, none⟩) hg
  exact ⟨(e _).trans c0, (e _).trans c1, (e _).trans c2, u, (e _).trans c3, (hs.keep (Kept.of_below hb hh)).wide (Nat.le_refl _) h2⟩
/-- A copy whose Witness at an In is set anew. -/
theorem re_tx {W wS : World} {lo lo3 c d i g : Nat} {B : Option Addr} {t : TxD} {x : InD} {vS : Value} {sg : ByteArray} (hc : t.ins.length ≤ c) (hlg : lo ≤ g) (hgs : g < W.heap.size)
    (hall : ∀ (j : Nat) (y : InD), t.ins[j]? = some y → InAt W (g + 1) W.heap.size g (j * 4) y) (ho : Outs W lo3 W.heap.size (.slice B t.outs.length d) t.outs) (hg3 : g < lo3) (hlo3 : lo ≤ lo3) (hx : t.ins[i]? = some x)
    (hb : Below W.heap.size W wS) (hv : Strs wS W.heap.size wS.heap.size vS [sg]) :
    TxAt (wS.setCell ⟨g, i * 4 + 3, none⟩ vS) lo wS.heap.size (.slice (some ⟨g, 0, none⟩) t.ins.length c) (.slice B t.outs.length d) (reW t i x [sg]) := by
  have hz := hb.size
  have hk1 : Kept (g + 1) wS.heap.size wS (wS.setCell ⟨g, i * 4 + 3, none⟩ vS) := Kept.setCell (p := ⟨g, i * 4 + 3, none⟩) (.inl (by show g < g + 1; omega)) vS
  have hold := fun (o : Nat) => hb.cell (p := ⟨g, o, none⟩) hgs
  refine ⟨⟨_, c, by rw [re_len], by rw [re_len]; exact hc, .inr ⟨g, 0, rfl, hlg, by omega, fun k y hy => ?_⟩⟩, ?_⟩
  · rw [Nat.zero_add]
    by_cases hk : k = i
    · subst hk
      rw [re_at hx] at hy
      injection hy with hy
      subst hy
      obtain ⟨c0, c1, c2, u, c3, _⟩ := hall k x hx
      have e := fun o (ho : o ≠ k * 4 + 3) => World.cell?_setCell_other wS ⟨g, k * 4 + 3, none⟩ ⟨g, o, none⟩ vS (by intro h; injection h with _ h; exact ho h.symm)
      exact ⟨(e _ (by omega)).trans ((hold _).trans c0), (e _ (by omega)).trans ((hold _).trans c1), (e _ (by omega)).trans ((hold _).trans c2), vS, World.cell?_setCell_same _ _ _ ((hold _).trans c3), (hv.keep (hk1.mono (by omega) (Nat.le_refl _))).wide (by omega) (Nat.le_refl _)⟩
    · rw [re_other hk] at hy
      obtain ⟨c0, c1, c2, u, c3, hs⟩ := hall k y hy
      have e := fun o (ho : o ≠ i * 4 + 3) => World.cell?_setCell_other wS ⟨g, i * 4 + 3, none⟩ ⟨g, o, none⟩ vS (by intro h; injection h with _ h; exact ho h.symm)
      exact ⟨(e _ (by omega)).trans ((hold _).trans c0), (e _ (by omega)).trans ((hold _).trans c1), (e _ (by omega)).trans ((hold _).trans c2), u, (e _ (by omega)).trans ((hold _).trans c3), ((hs.keep (Kept.of_below hb (Nat.le_refl _))).keep (hk1.mono (Nat.le_refl _) hz)).wide (by omega) hz⟩
  · exact ((ho.keep (Kept.of_below hb (Nat.le_refl _))).keep (hk1.mono (by omega) hz)).wide hlo3 hz

set_option maxHeartbeats 4000000 in
theorem later_law (z : JobD) (vc vs vo : Value) (la wh : Int) (w : World) (hz : JobAt w w.heap.size vc vs vo z) (hok : z.Ok) (hd : ErrDoor w) (hla : 0 ≤ la ∧ la ≤ 65535) (hwh : 0 ≤ wh ∧ wh ≤ 255) : Calls Tryd.prog 4 #[jobV z vc vs vo, .int .u16 la, .int .u8 wh] w fun e w' => e = .returned (.bool true) ∧ Below w.heap.size w w' := by
  obtain ⟨w0, hw0⟩ : ∃ w0, w0 = w.alloc (.cells #[vc, vs, vo, .int .u32 z.ver, .int .u32 z.lock, .int .i64 z.ht] 27) := ⟨_, rfl⟩
  have z0 : w0.heap.size = w.heap.size + 1 := by rw [hw0]; simp
  have hb0 : Below w.heap.size w w0 := by rw [hw0]; exact (Below.refl _ _).alloc (Nat.le_refl _) _
  have hn0 := hw0 ▸ heap_alloc_new w (.cells #[vc, vs, vo, .int .u32 z.ver, .int .u32 z.lock, .int .i64 z.ht] 27)
  have QB := Lib.hid (fun (V : World) (hV : Below w0.heap.size w0 V) (o : Nat) (v : Value) (hv : (#[vc, vs, vo, .int .u32 z.ver, .int .u32 z.lock, .int .i64 z.ht] : Array Value)[o]? = some v) => (hV.cell (p := ⟨w.heap.size, o, none⟩) (by show w.heap.size < _; omega)).trans (Co.cell_in hn0 hv))
  have JB := Lib.hid (fun (V : World) (hV : Below w0.heap.size w0 V) => (hz.keep (Kept.of_below (hb0.trans (hV.mono (by omega))) (Nat.le_refl _))).wide (show w.heap.size ≤ V.heap.size by have := hV.size; omega))
  have HOK := Lib.hid hok
  have B0 := Lib.hid hb0
  have HW0 := Lib.hid hw0
  have DD := Lib.hid (fun (V : World) (hV : Below w.heap.size w V) => hd.below hV hd.lt)
  have CH := Lib.hid (held_any z vc vs vo w0 (JB.out w0 (Below.refl _ _)) hok)
  have hht := hok.ht
  obtain ⟨q0, q1, q2, q3, q4, q5⟩ : _ ∧ _ ∧ _ ∧ _ ∧ _ ∧ _ := ⟨QB.out w0 (Below.refl _ _) 0 _ rfl, QB.out w0 (Below.refl _ _) 1 _ rfl, QB.out w0 (Below.refl _ _) 2 _ rfl, QB.out w0 (Below.refl _ _) 3 _ rfl, QB.out w0 (Below.refl _ _) 4 _ rfl, QB.out w0 (Below.refl _ _) 5 _ rfl⟩
  have hmx := run_max0 z.ht
  have pg := pos_ge z.ht
  have pl := pos_le hht.2
  obtain ⟨ht, hhe⟩ : ∃ h, hgt z.ht = h := ⟨_, rfl⟩
  have hbd := hgt_bd z.ht
  rw [hhe] at hbd
  have hr1 : (pos z.ht).tmod 400 = ht := by rw [← hhe]; exact Int.tmod_eq_emod_of_nonneg pg
  have hr2 : IntKind.i64.wrap ht = ht := IntWalk.i64_in _ (by omega)
  have hr3 : ¬ (400 : Int) = 0 := by decide
  have HBD := Lib.hid hbd
  unfold jobV at *
  have Z0 := Lib.hid z0
  clear z0
  clear hz hok hd hw0 hb0 hn0 hht hhe pl hbd
  go_enter Tryd.func4, Tryd.ntmps4
  go_upto_region 1 with (fail)
  rw [show World.alloc w _ = w0 from HW0.out.symm]
  go_wp2_with fail
  refine CH.out.mono ?_
  rintro e w1 ⟨l, vl, rfl, hs1, _, _, hb1⟩
  obtain ⟨sa, hsa⟩ : ∃ a, w0.heap.size + 2 = a := ⟨_, rfl⟩
  obtain ⟨sb, hsb⟩ : ∃ a, w0.heap.size + 1 = a := ⟨_, rfl⟩
  rw [hsa] at hs1 ⊢
  rw [hsb] at hs1
  have S1 := Lib.hid hs1
  have L1 := Lib.hid hb1
  have z1 := hb1.size
  have l1 := hs1.lta
  have CG := Lib.hid (spending_any z vc vs vo w1 (JB.out w1 hb1) HOK.out)
  clear hs1 hb1 CH q0 q1 q2 q3 q4 q5
  obtain ⟨q0, q1, q2, q3, q4, q5⟩ : _ ∧ _ ∧ _ ∧ _ ∧ _ ∧ _ := ⟨QB.out w1 L1.out 0 _ rfl, QB.out w1 L1.out 1 _ rfl, QB.out w1 L1.out 2 _ rfl, QB.out w1 L1.out 3 _ rfl, QB.out w1 L1.out 4 _ rfl, QB.out w1 L1.out 5 _ rfl⟩
  unfold jobV at CG
  go_wp2_with fail
  refine CG.out.mono ?_
  rintro e w2 ⟨t, vi, vto, rfl, ht2, hok2, hb2⟩
  have z2 := hb2.size
  obtain ⟨Ai, ci, rfl⟩ := ht2.1.form
  obtain ⟨Ao, co, rfl⟩ := ht2.2.form
  obtain ⟨w3, hw3⟩ : ∃ w3, w3 = w2.alloc (.cells #[.int .u32 t.ver, .slice Ai t.ins.length ci, .slice Ao t.outs.length co, .int .u32 t.lock] 34) := ⟨_, rfl⟩
  have z3 : w3.heap.size = w2.heap.size + 1 := by rw [hw3]; simp
  have hb3 : Below w2.heap.size w2 w3 := by rw [hw3]; exact (Below.refl _ _).alloc (Nat.le_refl _) _
  have XB := Lib.hid (show Boxed w3 w2.heap.size (.int .u32 t.ver) (.slice Ai t.ins.length ci) (.slice Ao t.outs.length co) (.int .u32 t.lock) from by rw [hw3]; exact Boxed.new _ _ _ _ _ _)
  have XT := Lib.hid (ht2.keep (Kept.of_below hb3 (Nat.le_refl _)))
  have OKT := Lib.hid hok2
  have S3 := Lib.hid ((S1.out.below hb2 (by omega) (by omega)).below hb3 (by omega) (by omega))
  have L3 := Lib.hid (below_next (below_next L1.out L1.out.size hb2) (by omega) hb3)
  have B3 := Lib.hid (B0.out.trans (L3.out.mono (by have := Z0.out; omega)))
  have HW3 := Lib.hid hw3
  clear q0 q1 q2 q3 q4 q5 CG ht2 hok2 hb2 hb3 hw3
  have q5 := QB.out w3 L3.out 5 _ rfl
  have CF := Lib.hid (fun V (hV : Below w3.heap.size w3 V) => fee_any _ _ l t ht _ _ V (S3.out.below hV (by omega) (by omega)) ((XT.out.keep (Kept.of_below hV (by omega))).wide (Nat.zero_le _) (show w2.heap.size ≤ V.heap.size by have := hV.size; omega)) OKT.out)
  have CW := Lib.hid (fun V (hV : Below w.heap.size w V) => wakes_any V (DD.out V hV))
  obtain ⟨b0, b1, b2, b3⟩ := XB.out
  go_upto_region 3 with (fail)
  rw [show World.alloc w2 _ = w3 from HW3.out.symm]
  obtain ⟨A, hA⟩ : ∃ A, feA l t ht = A := ⟨_, rfl⟩
  have CF3 := Lib.hid (CF.out w3 (Below.refl _ _))
  rw [hA] at CF3
  have HA := Lib.hid hA
  clear hA
  go_wp2_with fail
  refine CF3.out.mono ?_
  rintro e w5 ⟨ve, rfl, he, hb5⟩
  have L5 := Lib.hid hb5
  have E5 := Lib.hid he
  have B5 := Lib.hid (below_next B3.out B3.out.size hb5)
  clear hb5 he CF3 b0 b1 b2 b3 q5
  by_cases hc : A.code = 0
  · have hc0 : (feA l t ht).code = 0 := by rw [HA.out]; exact hc
    obtain ⟨k1, k2, k3, k4, k5, k6⟩ := fe_has hc0
    obtain ⟨m1, m2, m3⟩ := check_ok k1
    obtain rfl : ve = .nilIface := by have h := E5.out; rw [hc] at h; exact h.none
    have hnn := neq_none
    have hen := eql_none
    have HL := Lib.hid (show KLie w w3 sa sb w2.heap.size w1.heap.size w2.heap.size from ⟨by have := Z0.out; omega, by have := Z0.out; omega, by have := S1.out.lta; omega, by have := S1.out.ltb; omega, by omega, Nat.le_refl _, by omega⟩)
    have K5 := Lib.hid (show KSt w w3 sa sb w2.heap.size w1.heap.size w2.heap.size t (.slice Ai t.ins.length ci) (.slice Ao t.outs.length co) l w5 from ⟨S3.out.below L5.out (by omega) (by omega), XT.out.keep (Kept.of_below L5.out (by omega)), XB.out.below (by omega) L5.out, B5.out, L5.out.size⟩)
    have hn := OKT.out.1
    have GD := Lib.hid S3.out.good
    obtain ⟨i, hi⟩ : ∃ i : Nat, wh % (t.ins.length : Int) = (i : Int) := ⟨(wh % (t.ins.length : Int)).toNat, (Int.toNat_of_nonneg (Int.emod_nonneg _ (by omega))).symm⟩
    have hin : i < t.ins.length := by have := Int.emod_lt_of_pos wh (show (0 : Int) < (t.ins.length : Int) by omega); omega
    obtain ⟨x, hx⟩ : ∃ x, t.ins[i]? = some x := ⟨_, List.getElem?_eq_getElem hin⟩
    obtain ⟨i1, i2, i3, _⟩ := OKT.out.2.2.1 x (List.mem_of_getElem? hx)
    have HX := Lib.hid hx
    have PT := Lib.hid (show Co.PtOk x.id x.ix from ⟨i1, i2, i3⟩)
    have r1 : ¬ (t.ins.length : Int) = 0 := by omega
    have r1' : ¬ t.ins.length = 0 := by omega
    have r2 : wh.tmod (t.ins.length : Int) = (i : Int) := by rw [← hi]; exact Int.tmod_eq_emod_of_nonneg hwh.1
    have r3 : IntKind.i64.wrap (i : Int) = (i : Int) := IntWalk.i64_in _ (by omega)
    have r4 : IntKind.i64.wrap wh = wh := IntWalk.i64_in _ (by omega)
    have r5 : IntKind.i64.wrap la = la := IntWalk.i64_in _ (by omega)
    have r6 : IntKind.i64.wrap (ht + la) = ht + la := IntWalk.i64_in _ (by have := HBD.out; omega)
    have r7 : (i : Int) < (t.ins.length : Int) := by omega
    have r8 : ¬ (i : Int) < 0 := by omega
    have FL := Lib.hid (show feA l t (ht + la) = A from by rw [← HA.out]; exact fe_later (by omega) (by have := HBD.out; omega) hc0)
    have FG := Lib.hid (fe_gone hc0 hx)
    have FK := Lib.hid (fun hm => fe_lock (l := l) hc0 hx hm)
    have OKU := Lib.hid (re_ok OKT.out hx)
    have nee : t.ins ≠ [] := by intro h; rw [h] at m1; simp at m1
    have CT := Lib.hid (fun (V : World) (m : List Co.EnD) (hs : Co.SetIs V sa sb m) => Co.take_any sa sb m x.id x.ix V hs PT.out)
    have CG := Lib.hid (fun (V : World) (m : List Co.EnD) (hs : Co.SetIs V sa sb m) => Co.get_any sa sb m x.id x.ix V hs PT.out)
    have hsc := at_scr GD.out x.id x.ix
    obtain ⟨y, hy⟩ : ∃ y, Co.atE l x.id x.ix = y := ⟨_, rfl⟩
    obtain ⟨yi, yx, yv, ys, yt⟩ := y
    rw [hy] at FK hsc
    simp only at FK hsc
    have HY := Lib.hid hy
    clear hc E5 CF k3 k4 k5 k6 m2 hi hx hy i1 i2 i3
    go_wp2_with fail
    refine (CW.out w5 B5.out).mono ?_
    rintro e w6 ⟨rfl, hb6⟩
    have K6 := Lib.hid (K5.out.below HL.out hb6)
    have F2 := Lib.hid (fee_any sa sb l t (ht + la) _ _ w6 K6.out.set (K6.out.tx.wide (Nat.zero_le _) (by have := K6.out.size; omega)) OKT.out)
    rw [FL.out] at F2
    obtain ⟨b0, b1, b2, b3⟩ := K6.out.box
    clear hb6
    go_wp2_with fail
    refine F2.out.mono ?_
    rintro e w7 ⟨v2, rfl, he2, hb7⟩
    obtain rfl : v2 = .nilIface := by rw [← HA.out, hc0] at he2; exact he2.none
    have K7 := Lib.hid (K6.out.below HL.out hb7)
    clear hb7 he2 F2 b0 b1 b2 b3
    obtain ⟨b0, b1, b2, b3⟩ := K7.out.box
    have CC := Lib.hid (copy_own t _ _ w7 w1.heap.size w2.heap.size K7.out.tx (by have := K7.out.size; omega) OKT.out)
    go_wp2_with fail
    refine CC.out.mono ?_
    rintro e w8 ⟨A8, c8, B8, d8, rfl, hrow, lo3, hos, hlt3, hl3, hb8⟩
    obtain ⟨hcc, hrow⟩ := hrow
    obtain ⟨g8, cur8, rfl, q1, q2, q3, q4, q5, q6⟩ : ∃ g cur, A8 = some ⟨g, 0, none⟩ ∧ w7.heap.size + 2 ≤ g ∧ g < w8.heap.size ∧ w8.heap[g]? = some (.cells cur 46 (0, 0)) ∧ cur.size = c8 * 4 ∧ c8 ≤ maxLen ∧ ∀ (j : Nat) (x : InD), t.ins[j]? = some x → InAt w8 (g + 1) w8.heap.size g (j * 4) x := by
      rcases hrow with h | h
      · exact absurd h nee
      · exact h
    have hg3 := hlt3 nee _ rfl
    simp only at hg3
    have K8 := Lib.hid (K7.out.below HL.out hb8)
    have z8 := hb8.size
    obtain ⟨w9, hw9⟩ : ∃ w9, w9 = w8.alloc (.cells #[.int .u32 t.ver, .slice (some ⟨g8, 0, none⟩) t.ins.length c8, .slice B8 t.outs.length d8, .int .u32 t.lock] 34) := ⟨_, rfl⟩
    have hb9 : Below w8.heap.size w8 w9 := by rw [hw9]; exact (Below.refl _ _).alloc (Nat.le_refl _) _
    have z9 : w9.heap.size = w8.heap.size + 1 := by rw [hw9]; simp
    have K9 := Lib.hid (K8.out.below HL.out hb9)
    have UB := Lib.hid (show Boxed w9 w8.heap.size (.int .u32 t.ver) (.slice (some ⟨g8, 0, none⟩) t.ins.length c8) (.slice B8 t.outs.length d8) (.int .u32 t.lock) from by rw [hw9]; exact Boxed.new _ _ _ _ _ _)
    have B79 := Lib.hid (below_next hb8 hb8.size hb9)
    have RW := Lib.hid (fun (wS : World) (vS : Value) (hb : Below w9.heap.size w9 wS) (hv : Strs wS w9.heap.size wS.heap.size vS [sgS 0 999]) =>
      re_tx (W := w9) (lo := w7.heap.size) hcc (by omega) (by omega) (fun j y hy => in_past (q6 j y hy) (by omega) (Nat.le_refl _) hb9 (by omega)) ((hos.keep (Kept.of_below hb9 (Nat.le_refl _))).wide (Nat.le_refl _) (by omega)) hg3 (by omega) HX.out hb hv)
    have SG := Lib.hid (fun V => rsign_any 0 999 V (by decide) (by decide))
    have ub0 := UB.out
    obtain ⟨b0, b1, b2, b3⟩ := UB.out
    clear ub0
    obtain ⟨h80, h81, h82, u0, h83, _⟩ := q6 i x HX.out
    have h83 := (hb9.cell (p := ⟨g8, i * 4 + 3, none⟩) (by show g8 < _; omega)).trans h83
    have h84 : w9.frozen? ⟨g8, i * 4 + 3, none⟩ = false := Lib.frozen_of_heap ((hb9.block g8 (by omega)).trans q3) _
    have HW9 := Lib.hid hw9
    have hgl : g8 < w9.heap.size := by omega
    have nq1 : ¬ w8.heap.size = g8 := by omega
    have nq2 : ¬ g8 = w8.heap.size := by omega
    have hul : w8.heap.size < w9.heap.size := by omega
    have LM := Lib.hid (fun (V wS : World) (vS : Value) (hV : Below w9.heap.size w9 V) (hB : Below V.heap.size V wS) (hst : Strs wS V.heap.size wS.heap.size vS [sgS 0 999]) => (show Below w7.heap.size w7 (wS.setCell ⟨g8, i * 4 + 3, none⟩ vS) ∧ Boxed (wS.setCell ⟨g8, i * 4 + 3, none⟩ vS) w8.heap.size (.int .u32 t.ver) (.slice (some ⟨g8, 0, none⟩) t.ins.length c8) (.slice B8 t.outs.length d8) (.int .u32 t.lock) ∧ TxAt (wS.setCell ⟨g8, i * 4 + 3, none⟩ vS) w7.heap.size (wS.setCell ⟨g8, i * 4 + 3, none⟩ vS).heap.size (.slice (some ⟨g8, 0, none⟩) t.ins.length c8) (.slice B8 t.outs.length d8) (reW t i x [sgS 0 999]) from by
      have hS := below_next hV hV.size hB
      have hs1 := hV.size
      have hs2 := hB.size
      obtain ⟨u0, u1, u2, u3⟩ := UB.out.below (by omega) hS
      have e := fun o => World.cell?_setCell_other wS ⟨g8, i * 4 + 3, none⟩ ⟨w8.heap.size, o, none⟩ vS (by intro h; injection h with h; omega)
      refine ⟨(below_next B79.out B79.out.size hS).setCell (by show w7.heap.size ≤ g8; omega) vS, ⟨(e 0).trans u0, (e 1).trans u1, (e 2).trans u2, (e 3).trans u3⟩, ?_⟩
      have := RW.out wS vS hS (hst.wide (by omega) (Nat.le_refl _))
      simp only [World.size_setCell]
      exact this))
    clear hw9 hb9 h80 h81 h82 q6 q3
    go_upto_region 10 with (fail)
    rw [show World.alloc w8 _ = w9 from HW9.out.symm]
    go_cut [] (fun wx => Hid (Below w7.heap.size w7 wx ∧ Boxed wx w8.heap.size (.int .u32 t.ver) (.slice (some ⟨g8, 0, none⟩) t.ins.length c8) (.slice B8 t.outs.length d8) (.int .u32 t.lock) ∧ TxAt wx w7.heap.size wx.heap.size (.slice (some ⟨g8, 0, none⟩) t.ins.length c8) (.slice B8 t.outs.length d8) (reW t i x [sgS 0 999])))
    case first =>
      go_region_held3 (fun w' => w'.cell? ⟨w8.heap.size, 1, none⟩ = some (.slice (some ⟨g8, 0, none⟩) t.ins.length c8))
        (go_keep)
        (first | (go_at_call 18; refine (SG.out _).mono ?_; rintro e wS ⟨vS, rfl, hst, hB⟩; obtain ⟨AS, cS, rfl⟩ : ∃ A c, vS = Value.slice A 1 c := (by obtain ⟨A, c, rfl, _⟩ := hst; exact ⟨A, c, rfl⟩); have e1 := (hB.cell (p := ⟨w8.heap.size, 1, none⟩) (by simp; omega)).trans (show _ = some (Value.slice (some ⟨g8, 0, none⟩) t.ins.length c8) from by simpa using b1); have e2 := (hB.cell (p := ⟨g8, i * 4 + 3, none⟩) (by simp; omega)).trans (show _ = some u0 from by simpa using h83); have e3 := (hB.frozen (p := ⟨g8, i * 4 + 3, none⟩) (by simp; omega)).trans (show _ = false from by simpa using h84)))
      all_goals go_wp2_with fail
      all_goals go_meet
      all_goals exact Lib.hid (LM.out _ _ _ (Below.refl _ _).drew hB hst)
    case rest =>
      obtain ⟨hbc, hub, hut⟩ := hcut.out
      clear b0 b1 b2 b3 h83 h84 SG LM RW CC
      have KC := Lib.hid (K7.out.below HL.out hbc)
      obtain ⟨b0, b1, b2, b3⟩ := hub
      have UT := Lib.hid hut
      have F3 := Lib.hid (fee_any sa sb l (reW t i x [sgS 0 999]) ht _ _ wc KC.out.set (UT.out.wide (Nat.zero_le _) (Nat.le_refl _)) OKU.out)
      obtain ⟨G, hG⟩ : ∃ G, feA l (reW t i x [sgS 0 999]) ht = G := ⟨_, rfl⟩
      rw [hG] at F3 FK
      rw [show (reW t i x [sgS 0 999]).ver = t.ver from rfl, show (reW t i x [sgS 0 999]).lock = t.lock from rfl] at F3
      clear hG hbc hut hcut
      go_wp2_with fail
      refine F3.out.mono ?_
      rintro e w11 ⟨v3, rfl, he3, hb11⟩
      have E3 := Lib.hid he3
      have K11 := Lib.hid (KC.out.below HL.out hb11)
      have hz11 := hb11.size
      have ZC := Lib.hid (show w3.heap.size ≤ wc.heap.size from KC.out.size)
      clear he3 hb11 F3 b0 b1 b2 b3
      obtain ⟨bi, oi, rfl, g1, g2, c0, c1, c2, u, c3, hst⟩ := K11.out.tx.1.at HX.out
      obtain ⟨b0, b1, b2, b3⟩ := K11.out.box
      have CG1 := Lib.hid (CG.out w11 l K11.out.set)
      rw [HY.out] at CG1
      simp only at CG1
      clear hst c2 c3
      go_wp2_with fail
      refine CG1.out.mono ?_
      rintro e w12 ⟨rfl, hb12⟩
      have K12 := Lib.hid (K11.out.below HL.out hb12)
      have E12 := Lib.hid (E3.out.below hb12)
      have hz12 := hb12.size
      obtain ⟨w13, hw13⟩ : ∃ wa, wa = w12.alloc (.cells #[.int .i64 yv, .string ys, .int .i64 yt] 50) := ⟨_, rfl⟩
      have hb13 : Below w12.heap.size w12 w13 := by rw [hw13]; exact (Below.refl _ _).alloc (Nat.le_refl _) _
      have z13 : w13.heap.size = w12.heap.size + 1 := by rw [hw13]; simp
      have o1 : w13.cell? ⟨w12.heap.size, 1, none⟩ = some (.string ys) := by rw [hw13]; simp
      have K13 := Lib.hid (K12.out.below HL.out hb13)
      have E13 := Lib.hid (E12.out.below hb13)
      have HW13 := Lib.hid hw13
      have LG := Lib.hid (lget_any ys w13 hsc)
      clear b0 b1 b2 b3 c0 c1 hb12 hb13 hw13 CG1
      go_upto_region 13 with (fail)
      rw [show World.alloc w12 _ = w13 from HW13.out.symm]
      go_wp2_with fail
      refine LG.out.mono ?_
      rintro e w14 ⟨vl14, rfl, hbrs, hb14⟩
      have K14 := Lib.hid (K13.out.below HL.out hb14)
      have E14 := Lib.hid (E13.out.below hb14)
      have hz14 := hb14.size
      obtain ⟨A14, c14, rfl⟩ := hbrs.form
      have HB14 := Lib.hid hbrs
      clear hb14 hbrs o1 LG
      obtain ⟨mb, hmb⟩ : ∃ b, mineB ys = b := ⟨_, rfl⟩
      rw [hmb] at FK
      have HM := Lib.hid hmb
      clear hmb
      obtain ⟨n14, hn14⟩ : ∃ n, (gtR ys).length = n := ⟨_, rfl⟩
      rw [hn14] at HB14 ⊢
      go_upto_region 14 with (fail)
      go_cut [23] (fun v23 wx => v23 = .bool mb ∧ wx = w14)
      case first =>
        cases hg : gtR ys with
        | nil =>
          obtain rfl : mb = false := by rw [← HM.out]; unfold mineB; rw [hg]
          have j0 : n14 = 0 := by rw [← hn14, hg]; rfl
          have j1 : ¬ 0 < n14 := by omega
          have j2 : ¬ (0 : Int) < (n14 : Int) := by omega
          clear j0 hn14
          go_wp2_with fail
          go_meet
          exact ⟨rfl, rfl⟩
        | cons b r =>
          obtain ⟨bb, ob, rfl, _, _, d0, _, _⟩ := HB14.out.at (k := 0) (x := b) (by rw [hg]; rfl)
          obtain rfl : mb = ((b.tag != 0) && (b.tag != 999)) := by rw [← HM.out]; unfold mineB; rw [hg]
          have j0 : 0 < n14 := by rw [← hn14, hg]; simp
          have j1 : (0 : Int) < (n14 : Int) := by omega
          clear hn14
          rw [show ob + 0 * 3 = ob from by omega] at d0
          by_cases t1 : b.tag = 0
          · rw [t1] at d0
            go_wp2_with fail
            go_meet
            exact ⟨by simp [t1], rfl⟩
          · have t1' : (b.tag == 0) = false := by simpa using t1
            by_cases t2 : b.tag = 999
            · rw [t2] at d0
              go_wp2_with fail
              go_meet
              exact ⟨by simp [t2], rfl⟩
            · have t2' : (b.tag == 999) = false := by simpa using t2
              go_wp2_with fail
              go_meet
              exact ⟨by simp, rfl⟩
      case rest =>
        obtain ⟨rfl, rfl⟩ := hcut
        clear HB14 HM
        obtain ⟨_, oi', hAi, g1, g2, c0, c1, _, u, _, _⟩ := K14.out.tx.1.at HX.out
        injection hAi with hAi
        injection hAi with hA1 hA2
        subst hA1 hA2
        obtain ⟨b0, b1, b2, b3⟩ := K14.out.box
        have CT1 := Lib.hid (CT.out wc l K14.out.set)
        clear CT
        go_wp2_with fail
        refine CT1.out.mono ?_
        rintro e w15 ⟨rfl, hs15, hk15⟩
        have K15 := Lib.hid (K14.out.turn HL.out hs15 hk15)
        have E15 := Lib.hid (E14.out.keep hk15.size (fun b h1 h2 => hk15.block b h2 (by have := HL.out.al; have := HL.out.lh; have := HL.out.hg; have := HL.out.gs; have := ZC.out; omega) (by have := HL.out.bl; have := HL.out.lh; have := HL.out.hg; have := HL.out.gs; have := ZC.out; omega)))
        have F4 := Lib.hid (fee_any sa sb (Co.delL l x.id x.ix) t ht _ _ w15 K15.out.set (K15.out.tx.wide (Nat.zero_le _) (by have := K15.out.size; omega)) OKT.out)
        rw [FG.out] at F4
        clear b0 b1 b2 b3 c0 c1 hs15 hk15 CT1
        obtain ⟨b0, b1, b2, b3⟩ := K15.out.box
        go_wp2_with fail
        refine F4.out.mono ?_
        rintro e w16 ⟨v4, rfl, he4, hb16⟩
        have E4 := Lib.hid he4
        have K16 := Lib.hid (K15.out.below HL.out hb16)
        have E16 := Lib.hid (E15.out.below hb16)
        clear b0 b1 b2 b3 he4 hb16 F4
        have s8 : ((8 : Int) == 8) = true := rfl
        have s9 : ((9 : Int) == 9) = true := rfl
        go_wp2_with fail
        refine (CW.out w16 K16.out.bel).mono ?_
        rintro e w17 ⟨rfl, hb17⟩
        have K17 := Lib.hid (K16.out.below HL.out hb17)
        have E17 := Lib.hid (E16.out.below hb17)
        have I4 := Lib.hid (is_err (E4.out.below hb17) (f := 8) (by decide))
        have P4 := Lib.hid (place_err (E4.out.below hb17) (DD.out w17 K17.out.bel))
        rw [s8] at I4
        clear hb17
        go_wp2_with fail
        refine I4.out.mono ?_
        rintro e w18 ⟨rfl, rfl⟩
        go_wp2_with fail
        refine P4.out.mono ?_
        rintro e w19 ⟨rfl, hb19⟩
        have K19 := Lib.hid (K17.out.below HL.out hb19)
        have E19 := Lib.hid (E17.out.below hb19)
        clear hb19
        cases mb with
        | false =>
          go_wp2_with fail
          go_ret
          exact ⟨rfl, K19.out.bel⟩
        | true =>
          obtain rfl := FK rfl
          have I3 := Lib.hid (is_err E19.out (f := 9) (by decide))
          have P3 := Lib.hid (place_err E19.out (DD.out w19 K19.out.bel))
          simp only at I3 P3
          rw [s9] at I3
          go_wp2_with fail
          refine I3.out.mono ?_
          rintro e w20 ⟨rfl, rfl⟩
          go_wp2_with fail
          refine P3.out.mono ?_
          rintro e w21 ⟨rfl, hb21⟩
          have K21 := Lib.hid (K19.out.below HL.out hb21)
          go_wp2_with fail
          go_ret
          exact ⟨rfl, K21.out.bel⟩
  · obtain ⟨T, xv, rfl, hT⟩ := E5.out.fault hc
    have hne := neq_err hT
    clear hc E5 hT
    go_wp2_with fail
    refine (CW.out w5 B5.out).mono ?_
    rintro e w8 ⟨rfl, hb8⟩
    go_wp2_with fail
    go_ret
    exact ⟨rfl, below_next B5.out B5.out.size hb8⟩

end Go.Proofs.YtjclklppnkoehaaDoor

namespace Go.Proofs.YtjclklppnkoehaaDoor.checkLater
open Go.ChangeShapes Go.WideShapes Go.ChangeAt Go.RowKit Go.Joins
set_option linter.unusedVariables false
set_option maxRecDepth 100000

theorem own : ownKnob Tryd.prog.godebug = none := by kernel_rfl

/-! The row's step. -/
theorem lifted (os : Os) (started : os.Started) (H : Type) (enc : TypeId × Value → H) :
    ReturnsInHanded {} Tryd.checked os 4 .any (fun w args => (Rows.checkLaterSpec.pre enc Tryd.prog Tryd.f4 [] false w args ∧ laidMetH Tryd.prog laid1 w) ∧ sizedMet enc Tryd.prog Tryd.f4 (OpenSpec.ofChange Rows.checkLaterSpec) false w args)
      (Rows.checkLaterSpec.post enc Tryd.prog Tryd.f4 false true false false) := by
  refine returnsInHanded_of_change_and (C := Tryd.checked) (X := fun w _ => laidMetH Tryd.prog laid1 w) (fun _ _ _ hh h => h.of_heap hh) own started (by kernel_rfl) Tryd.func4
    (ChangeSpec.witness_shaped (enc := enc) (C := Tryd.checked) (os := os) (X := fun w _ => laidMetH Tryd.prog laid1 w) false (laidWorld os) #[.agg #[.slice none 0 0, .slice none 0 0, .slice none 0 0, .int .u32 0, .int .u32 0, .int .i64 0], .int .u16 0, .int .u8 0] 8 rfl (World.shaped_of_RefB (by kernel_rfl) (by kernel_rfl)) (by kernel_rfl) (by kernel_rfl) (by kernel_rfl) (laidWorld_met os _)) ?_
  intro W base args ds gs before hval0 hW hcnd hsz0 hL _
  have hval : ∀ (j : Nat) t v, Tryd.f4.params[j]? = some t → args[j]? = some v → Value.okWide Tryd.prog W .any base t v := hval0
  have hW' := hW
  obtain ⟨p, q, hA0, hV, rfl, hfz, hnd⟩ := hW
  have hA : DataW.TrodAll enc Tryd.prog W 0 (fun _ => true) true Tryd.f4.params.toList args.toList ds p := hA0
  rw [Tryd.params4] at hA hval
  obtain ⟨v0, vs0, d0, ds0, p0, q0, hargs, rfl, rfl, h0, r0⟩ := trodAll_cons hA
  obtain ⟨v1, vs1, d1, ds1, p1, q1, rfl, rfl, rfl, h1, r1⟩ := trodAll_cons r0
  obtain ⟨v2, vs2, d2, ds2, p2, q2, rfl, rfl, rfl, h2, r2⟩ := trodAll_cons r1
  obtain ⟨rfl, rfl, rfl⟩ := trodAll_nil r2
  obtain rfl : args = #[v0, v1, v2] := by cases args; simp_all
  obtain ⟨rfl, rfl⟩ := trodVars_none hV
  have lt0 : ∀ x ∈ p0, x.block < W.heap.size := by obtain ⟨m, hm⟩ := h0; exact DataW.trod_lt m _ _ _ hm
  have lt1 : ∀ x ∈ p1, x.block < W.heap.size := by obtain ⟨m, hm⟩ := h1; exact DataW.trod_lt m _ _ _ hm
  have lt2 : ∀ x ∈ p2, x.block < W.heap.size := by obtain ⟨m, hm⟩ := h2; exact DataW.trod_lt m _ _ _ hm
  obtain ⟨z, vc, vs, vo, rfl, hz, hzok⟩ := rd_job (hval 0 27 v0 rfl rfl) h0
  obtain ⟨x1, hx1, hb1⟩ : ∃ x, v1 = .int .u16 x ∧ 0 ≤ x ∧ x ≤ 65535 := by
    obtain ⟨a1, rfl, _, _, w1⟩ := open_int Tryd.underlying60 (hval 1 60 v1 rfl rfl) h1
    have := Go.bounds_u16 w1
    exact ⟨a1, rfl, by omega, by omega⟩
  subst hx1
  obtain ⟨x2, hx2, hb2⟩ : ∃ x, v2 = .int .u8 x ∧ 0 ≤ x ∧ x ≤ 255 := by
    obtain ⟨a1, rfl, _, _, w1⟩ := open_int Tryd.underlying5 (hval 2 5 v2 rfl rfl) h2
    have := Go.bounds_u8 w1
    exact ⟨a1, rfl, by omega, by omega⟩
  subst hx2
  clear hA0 hval0
  refine (later_law z vc vs vo x1 x2 W hz hzok (errdoor_of hL) hb1 hb2).mono fun e W' ⟨he, bel⟩ => ?_
  subst he
  exact ⟨_, rfl, _, _, _, [], _, [], hW', trodAll_mk1 (shut_bool Tryd.underlying4 _), (trodAll_cons_mk (Below.trod laidOut (by kernel_rfl) (of_decide_eq_true (by kernel_rfl)) h0 bel lt0) (trodAll_cons_mk (Below.trod laidOut (by kernel_rfl) (of_decide_eq_true (by kernel_rfl)) h1 bel lt1) (trodAll_cons_mk (Below.trod laidOut (by kernel_rfl) (of_decide_eq_true (by kernel_rfl)) h2 bel lt2) trodAll_mk0))), rfl, bel.frame _, fun h => by cases h⟩

theorem over : Rows.checkLaterRow.holds Tryd.pinned (OpenSpec.ofChange Rows.checkLaterSpec) :=
  OpenClaim.holds_of_wide 4 Tryd.f4 rfl rfl rfl rfl rfl rfl rfl ⟨rfl, rfl, rfl, rfl, rfl⟩ rfl rfl rfl rfl rfl (by kernel_rfl) Tryd.func4 (by kernel_rfl)
    (of_decide_eq_true (by kernel_rfl)) (by unfold Func.isWrapper; first | (rw [if_pos (by decide +kernel)]; kernel_rfl) | (rw [if_neg (by decide +kernel)]; exact ⟨rfl, rfl⟩))
    (fun os started H enc _ => lifted os started H enc)

/-- The row's statement. -/
theorem row : Rows.CheckLaterSaid :=
  over

/-- The statement: the card, tied to the program's text. -/
theorem proved : Rows.CheckLaterCardSaid :=
  Claim7.holds_tied_plain_at .later [] [.handle] true (true, "4a5d8b63bfae0bb7f4fe984d8877983e6d4d46f51a3e0299b9c07acefb29bdd0") true
    row (fun _ h => by cases h) (by kernel_rfl) (fun _ h => by cases h) checkLater_row_tie rfl ⟨rfl, rfl⟩ (by kernel_rfl) rfl
    (fun f fn hf hfn => by
      obtain rfl : f = 4 := Option.some.inj ((show Tryd.prog.funcNamed "kedge/kedgelaw11.CheckLater" = some 4 by kernel_rfl).symm.trans hf) |>.symm
      obtain rfl : fn = Tryd.f4 := (Option.some.inj (Tryd.func4.symm.trans hfn)).symm
      exact ⟨by kernel_rfl, fun j t ht => by
        rw [Tryd.params4] at ht
        have hm : t ∈ [27, 60, 5] := by simpa using Array.mem_of_getElem? ht
        have hall : ([27, 60, 5].all fun u => !Tryd.prog.wantsStandIn u) = true := by kernel_rfl
        exact (show Tryd.prog.wantsStandIn t = false by simpa using List.all_eq_true.1 hall t hm)⟩)
    (by kernel_rfl)
end Go.Proofs.YtjclklppnkoehaaDoor.checkLater
