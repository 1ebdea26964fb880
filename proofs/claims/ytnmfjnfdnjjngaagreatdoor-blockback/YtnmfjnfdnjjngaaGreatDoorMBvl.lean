/-
  What a block makes of all values together; a block and its transactions one by one; a coin that was changed and put as it was.
  What the document fixes of layer 12: its example.
  The example of layer 12, walked.
-/
import Derived.Test.YtnmfjnfdnjjngaaGreatDoorMIdc
import Derived.Test.YtnmfjnfdnjjngaaGreatDoorMEqs
import Derived.Test.YtnmfjnfdnjjngaaGreatDoorMApp
import Derived.Test.YtnmfjnfdnjjngaaGreatDoorMErw
import Derived.Deep.CutBlock

namespace Go.Proofs.YtnmfjnfdnjjngaaGreatDoor
open Go.RowKit
set_option maxRecDepth 100000

/-! ### Values -/

theorem sumFrom_sum : ∀ (zs : List Int) (s : Int), (sumFrom s zs).2 = 0 → (sumFrom s zs).1 = s + zs.sum
  | [], s, _ => by simp [sumFrom]
  | z :: r, s, h => by
    unfold sumFrom at h ⊢
    split
    · rename_i hz
      rw [if_pos hz] at h
      rw [sumFrom_sum r (s + z) h, List.sum_cons]
      omega
    · rename_i hz
      rw [if_neg hz] at h
      cases h
theorem total_sum {xs : List OutD} (h : (totalD xs).2 = 0) : (totalD xs).1 = (xs.map (·.val)).sum := by
  have := sumFrom_sum (vals xs) 0 h
  unfold totalD
  rw [this]
  simp [vals]
theorem put_tot {l : List Co.EnD} {x : Co.EnD} (h : Co.putE l x = 0) : Co.tot (Co.putL l x) = Co.tot l + x.val := by
  unfold Co.putL
  rw [if_pos h, Co.tot_perm (Co.insR_perm x l), Co.tot_cons]
  omega
theorem pays_tot {id : ByteArray} {h : Int} : ∀ (xs : List OutD) (i : Nat) (l : List Co.EnD), (paysL id h xs i l).2 = 0 → Co.tot (paysL id h xs i l).1 = Co.tot l + (xs.map (·.val)).sum
  | [], _, l, _ => by simp [paysL]
  | x :: r, i, l, h0 => by
    rw [paysL] at h0 ⊢
    by_cases hz : Co.putE l (outE id h i x) = 0
    · rw [if_pos hz] at h0 ⊢
      rw [pays_tot r (i + 1) _ h0, put_tot hz, List.map_cons, List.sum_cons]
      show Co.tot l + x.val + _ = _
      omega
    · rw [if_neg hz] at h0
      exact absurd h0 hz
theorem dels_tot {l : List Co.EnD} {t : TxD} {h : Int} (hg : Co.Good l) (h1 : twiceB t.ins = false) (ho : OkTo l t h t.ins.length) : ∀ k, k ≤ t.ins.length → Co.tot (dels l t k) = Co.tot l - sumV l (t.ins.take k)
  | 0, _ => by simp [dels, sumV]
  | k + 1, hk => by
    have hx : t.ins[k]? = some t.ins[k] := List.getElem?_eq_getElem (by omega)
    obtain ⟨a1, a2⟩ := dels_at (l := l) h1 hx k (Nat.le_refl _)
    have hh := (spE_ok (ho k _ (by omega) hx)).1
    rw [dels_step hx, sumV_step hx]
    rw [hh] at a1
    obtain ⟨b1, b2, b3⟩ := Co.atE_mem a1
    have e := Co.del_tot (dels_good hg t k).srt.apart b1
    rw [b2, b3] at e
    rw [e, a2, dels_tot hg h1 ho k (by omega)]
    show _ = _ - (_ + spV l _)
    unfold spV
    omega
/-- What a transaction grants. -/
def grnD (t : TxD) : Int := if isBase t.ins = true then (totalD t.outs).1 else 0
theorem grn_pos (t : TxD) : 0 ≤ grnD t := by
  unfold grnD
  split
  · exact (total_fits t.outs).1
  · exact Int.le_refl _
theorem one_tot {l : List Co.EnD} {t : TxD} {first : Bool} {h : Int} (hg : Co.Good l) (h0 : (oneA l t first h).code = 0) : Co.tot (oneA l t first h).l ≤ Co.tot l + grnD t := by
  cases hb : isBase t.ins with
  | true =>
    by_cases hz : grE t first h = 0
    · rw [one_grant hb hz] at h0 ⊢
      have hs := total_sum (check_ok (gr_zero hz)).2.2
      show Co.tot (paysL _ _ _ _ _).1 ≤ _
      rw [pays_tot t.outs 0 l h0]
      unfold grnD
      rw [if_pos hb, hs]
      exact Int.le_refl _
    · rw [one_grant_no hb hz] at h0
      exact absurd h0 hz
  | false =>
    by_cases hz : (feA l t h).code = 0
    · rw [one_fee hb hz] at h0 ⊢
      obtain ⟨c1, c2, c3, c4, c5, _⟩ := fe_has hz
      obtain ⟨d1, d2, d3⟩ := check_ok c1
      have hs := total_sum d3
      show Co.tot (paysL _ _ _ _ _).1 ≤ _
      rw [pays_tot t.outs 0 _ h0, dels_tot hg d2 c3 _ (Nat.le_refl _), List.take_length]
      have := grn_pos t
      omega
    · rw [one_fee_no hb hz] at h0
      exact absurd h0 hz
/-- A grant that isn't first is refused. -/
theorem late_grant {l : List Co.EnD} {t : TxD} {h : Int} (hb : isBase t.ins = true) : (oneA l t false h).code ≠ 0 := by
  have hz : grE t false h ≠ 0 := by
    by_cases hc : checkD t = 0
    · rw [gr_form hc (by simp)]; decide
    · rw [gr_check hc]; exact hc
  rw [one_grant_no hb hz]
  exact hz
theorem blkF_tot {h : Int} (h3 : 0 ≤ h) (h4 : h ≤ 1000000) : ∀ (xs : List TxD) (i : Nat) (l : List Co.EnD), 0 < i → (∀ t ∈ xs, t.Ok) → Co.Good l → Co.Arg l → (blkF h xs i l).code = 0 → Co.tot (blkF h xs i l).l ≤ Co.tot l
  | [], _, l, _, _, _, _, _ => Int.le_refl _
  | t :: r, i, l, hi, hx, hg, ha, h0 => by
    have hi' : (i == 0) = false := by simp; omega
    rw [blkF, hi'] at h0 ⊢
    by_cases hz : (oneA l t false h).code = 0
    · rw [if_pos hz] at h0 ⊢
      obtain ⟨a, b, c⟩ := one_keeps (first := false) (hx t (by simp)) h3 h4 hg ha
      have h1 := blkF_tot h3 h4 r (i + 1) (oneA l t false h).l (by omega) (fun y hy => hx y (by simp [hy])) a b h0
      have h2 := one_tot hg hz
      have : grnD t = 0 := by
        unfold grnD
        cases hb : isBase t.ins with
        | true => exact absurd hz (late_grant hb)
        | false => simp
      omega
    · rw [if_neg hz] at h0
      exact absurd h0 hz
/-- What the first transaction of a block grants. -/
def grn1 (ts : List TxD) : Int := match ts with
  | [] => 0
  | t :: _ => grnD t
/-- P12.3: values together grow by what is granted at most. -/
theorem blk_tot {l : List Co.EnD} {ts : List TxD} {h : Int} (hx : ∀ t ∈ ts, t.Ok) (hg : Co.Good l) (ha : Co.Arg l) (h0 : (blkA l ts h).code = 0) : Co.tot (blkA l ts h).l ≤ Co.tot l + grn1 ts := by
  unfold blkA at h0 ⊢
  split
  · rename_i hh
    rw [if_pos hh] at h0
    cases h0
  · rename_i hh
    rw [if_neg hh] at h0
    simp only [Bool.not_eq_false, Bool.and_eq_true, decide_eq_true_eq] at hh
    split
    · rename_i hc
      match ts, hx, hc with
      | [], _, _ => show Co.tot l ≤ Co.tot l + 0; omega
      | t :: r, hx, hc =>
        rw [blkF, show ((0 : Nat) == 0) = true from rfl] at hc ⊢
        by_cases hz : (oneA l t true h).code = 0
        · rw [if_pos hz] at hc ⊢
          obtain ⟨a, b, c⟩ := one_keeps (first := true) (hx t (by simp)) hh.1 hh.2 hg ha
          have h1 := blkF_tot hh.1 hh.2 r 1 (oneA l t true h).l (by omega) (fun y hy => hx y (by simp [hy])) a b hc
          have h2 := one_tot hg hz
          exact Int.le_trans h1 h2
        · rw [if_neg hz] at hc
          exact absurd hc hz
    · rename_i hc
      rw [if_neg hc] at h0
      exact absurd h0 hc

/-! ### One by one -/

theorem blk_one {l : List Co.EnD} {t : TxD} {h : Int} (h3 : 0 ≤ h) (h4 : h ≤ 1000000) :
    (blkA l [t] h).code = (oneA l t true h).code ∧ ((oneA l t true h).code = 0 → (blkA l [t] h).l = (oneA l t true h).l) := by
  by_cases hz : (oneA l t true h).code = 0
  · have e : blkF h [t] 0 l = ⟨(oneA l t true h).l, 0, -1, -1⟩ := by
      rw [blkF, show ((0 : Nat) == 0) = true from rfl, if_pos hz, blkF]
    rw [blk_ok h3 h4 (by rw [e]), e]
    exact ⟨hz.symm, fun _ => rfl⟩
  · have e : blkF h [t] 0 l = ⟨(oneA l t true h).l, (oneA l t true h).code, (0 : Nat), (oneA l t true h).inn⟩ := by
      rw [blkF, show ((0 : Nat) == 0) = true from rfl, if_neg hz]
    rw [blk_no h3 h4 (by rw [e]; exact hz), e]
    exact ⟨rfl, fun h => absurd h hz⟩
theorem blk_empty {l : List Co.EnD} {h : Int} : (blkA l [] h).l = l ∧ ((0 ≤ h ∧ h ≤ 1000000) → blkA l [] h = ⟨l, 0, -1, -1⟩) ∧ (¬ (0 ≤ h ∧ h ≤ 1000000) → blkA l [] h = ⟨l, 3, -1, -1⟩) := by
  by_cases hh : 0 ≤ h ∧ h ≤ 1000000
  · have e : blkA l [] h = ⟨l, 0, -1, -1⟩ := by rw [blk_ok hh.1 hh.2 rfl]; rfl
    exact ⟨by rw [e], fun _ => e, fun hn => absurd hh hn⟩
  · have e : blkA l [] h = ⟨l, 3, -1, -1⟩ := blk_range (by
      rw [Bool.eq_false_iff]
      intro hc
      simp only [Bool.and_eq_true, decide_eq_true_eq] at hc
      exact hh hc)
    exact ⟨by rw [e], fun hp => absurd hp hh, fun _ => e⟩

/-! ### A coin that is changed -/

theorem del_has (l : List Co.EnD) (a : ByteArray) (i : Int) : Co.hasB (Co.delL l a i) a i = false := by
  rw [Bool.eq_false_iff]
  intro h
  obtain ⟨x, hx, h1, h2⟩ := Co.hasB_iff.1 h
  have := (List.mem_filter.1 hx).2
  rw [Co.isB_iff.2 ⟨h1, h2⟩] at this
  cases this
theorem del_del (l : List Co.EnD) (a : ByteArray) (i : Int) : Co.delL (Co.delL l a i) a i = Co.delL l a i := Co.del_none (del_has l a i)
/-- What is put at a point and taken away from there again. -/
theorem del_put {l : List Co.EnD} (hl : Co.Srt l) {x : Co.EnD} (hn : Co.hasB l x.id x.ix = false) : Co.delL (Co.putL l x) x.id x.ix = l := by
  unfold Co.putL
  split
  · have hs := Co.insR_srt x l hl (Co.not_has hn)
    refine Co.srt_unique (Co.del_srt hs _ _) hl ?_
    have hm : x ∈ Co.insR x l := (Co.insR_perm x l).mem_iff.2 (by simp)
    have h1 := Co.del_perm hs.apart hm
    exact (List.perm_cons x).1 (h1.symm.trans (Co.insR_perm x l))
  · exact Co.del_none hn
/-- What is taken away and put again. -/
theorem put_del {l : List Co.EnD} (hg : Co.Good l) (ha : Co.Arg l) {x : Co.EnD} (hx : x ∈ l) : Co.putL (Co.delL l x.id x.ix) x = l := by
  have h0 : Co.putE (Co.delL l x.id x.ix) x = 0 := by
    unfold Co.putE
    rw [if_neg (by simp [ha x hx]), if_neg (by simp [del_has]), if_neg]
    rw [Co.del_tot hg.srt.apart hx]
    have h1 := hg.zero
    have h2 := hg.most
    have e : Co.tot l - x.val + x.val = Co.tot l := by omega
    rw [e]
    simp [Co.goodB_iff.2 ⟨h1, h2⟩]
  unfold Co.putL
  rw [if_pos h0]
  have hn := del_has l x.id x.ix
  refine Co.srt_unique (Co.insR_srt x _ (Co.del_srt hg.srt _ _) (Co.not_has hn)) hg.srt ?_
  exact (Co.insR_perm x _).trans (Co.del_perm hg.srt.apart hx).symm
/-- A coin that was changed isn't there. -/
theorem chg_no {l : List Co.EnD} {x y : Co.EnD} (hy : y ≠ x) : x ∉ Co.putL (Co.delL l x.id x.ix) y := by
  intro hx
  have hd : x ∉ Co.delL l x.id x.ix := fun h => by
    have := (List.mem_filter.1 h).2
    rw [Co.isB_iff.2 ⟨rfl, rfl⟩] at this
    cases this
  unfold Co.putL at hx
  split at hx
  · rcases List.mem_cons.1 ((Co.insR_perm y _).mem_iff.1 hx) with h | h
    · exact hy h.symm
    · exact hd h
  · exact hd hx

end Go.Proofs.YtnmfjnfdnjjngaaGreatDoor

namespace Go.Proofs.YtnmfjnfdnjjngaaGreatDoor
open Go.RowKit
set_option maxRecDepth 100000

def gX : TxD := grantD 3 [⟨5, ⟨#[]⟩⟩]
theorem gx_check : checkD gX = 0 := by decide +kernel
theorem gx_base : isBase gX.ins = true := by decide +kernel
theorem gx_lock : gX.lock = 3 := rfl
theorem gx_ok : gX.Ok := by
  refine ⟨by decide, by decide, fun x hx => ?_, fun x hx => ?_, by decide, by decide, by decide, by decide⟩
  · obtain rfl := List.mem_singleton.1 hx
    exact ⟨by decide +kernel, by decide, by decide, by decide, by decide, by decide, fun s hs => by simp at hs⟩
  · obtain rfl := List.mem_singleton.1 hx
    exact ⟨by decide, by decide, by decide⟩
/-- The coin that it makes. -/
def gE : Co.EnD := outE (idD gX) 3 0 ⟨5, ⟨#[]⟩⟩
theorem ge_put : Co.putE [] gE = 0 := by
  have h1 : Co.argB gE = true := by
    unfold Co.argB
    rw [show gE.id.size = 32 from idD_size gX, show gE.ht = 3 from rfl, show gE.val = 5 from rfl]
    decide
  unfold Co.putE
  rw [if_neg (by simp [h1]), if_neg (by simp [Co.hasB]), if_neg (by rw [Co.tot_nil, show gE.val = 5 from rfl]; decide)]
theorem gx_one : oneA [] gX true 3 = ⟨[gE], 0, -1⟩ := by
  have hz : grE gX true 3 = 0 := gr_ok gx_check (by rw [gx_lock]; decide)
  have hp : paysL (idD gX) 3 gX.outs 0 [] = ([gE], 0) := by
    show paysL (idD gX) 3 [⟨5, ⟨#[]⟩⟩] 0 [] = _
    rw [paysL]
    show (if Co.putE [] gE = 0 then paysL (idD gX) 3 [] (0 + 1) (Co.putL [] gE) else ([], Co.putE [] gE)) = _
    rw [if_pos ge_put, paysL]
    unfold Co.putL
    rw [if_pos ge_put]
    rfl
  rw [one_grant gx_base hz, hp]
theorem gx_blk : blkA [] [gX] 3 = ⟨[gE], 0, -1, -1⟩ := by
  have e : blkF 3 [gX] 0 [] = ⟨[gE], 0, -1, -1⟩ := by
    rw [blkF, show ((0 : Nat) == 0) = true from rfl, gx_one, if_pos rfl, blkF]
  rw [blk_ok (by decide) (by decide) (by rw [e]), e]
theorem gx_late : blkA [gE] [gX] 4 = ⟨[gE], 4, 0, -1⟩ := by
  have hz : grE gX true 4 = 4 := gr_form gx_check (by rw [gx_lock]; decide)
  have e1 : oneA [gE] gX true 4 = ⟨[gE], 4, -1⟩ := by rw [one_grant_no gx_base (by rw [hz]; decide), hz]
  have e : blkF 4 [gX] 0 [gE] = ⟨[gE], 4, 0, -1⟩ := by
    rw [blkF, show ((0 : Nat) == 0) = true from rfl, e1, if_neg (by decide)]
    rfl
  rw [blk_no (by decide) (by decide) (by rw [e]; decide), e]
theorem ge_arg : Co.Arg [gE] := fun x hx => by
  obtain rfl := List.mem_singleton.1 hx
  exact (Co.put_zero ge_put).1
theorem ge_less1 : Co.lessL [gE] [] = [gE] := by
  unfold Co.lessL
  simp [Co.inB, Co.hasB]
theorem ge_less0 : Co.lessL [] [gE] = [] := rfl
theorem ge_in : Co.inB [gE] gE = true := by
  simp [Co.inB, Co.hasB, Co.atE, Co.isB, Co.ptB, Co.cnB]
theorem ge_tot : Co.tot [gE] = 5 := by
  rw [Co.tot_cons, Co.tot_nil]
  rfl

/-- A list of one transaction. -/
theorem Txs.one (w : World) (lo : Nat) (t : TxD) (vi vo : Value) (ht : TxAt w lo w.heap.size vi vo t) (hlo : lo ≤ w.heap.size) :
    Txs (w.alloc (.cells #[.int .u32 t.ver, vi, vo, .int .u32 t.lock] 51)) lo (w.heap.size + 1) (.slice (some ⟨w.heap.size, 0, none⟩) 1 1) [t] := by
  refine ⟨_, 1, rfl, Nat.le_refl _, .inr ⟨w.heap.size, 0, rfl, hlo, Nat.lt_succ_self _, fun k x hx => ?_⟩⟩
  match k, hx with
  | 0, hx =>
    simp at hx
    subst hx
    have hb : Below w.heap.size w (w.alloc (.cells #[.int .u32 t.ver, vi, vo, .int .u32 t.lock] 51)) := (Below.refl _ _).alloc (Nat.le_refl _) _
    exact ⟨by simp, ⟨vi, vo, by simp, by simp, (ht.keep (Kept.of_below hb (Nat.le_refl _))).wide (Nat.le_refl _) (Nat.le_succ _)⟩, by simp⟩
theorem outs_lit (w : World) (v : Int) (s : ByteArray) : Outs (w.alloc (.cells #[.int .i64 v, .string s] 62)) w.heap.size (w.heap.size + 1) (.slice (some ⟨w.heap.size, 0, none⟩) 1 1) [⟨v, s⟩] := by
  refine ⟨_, 1, rfl, Nat.le_refl _, .inr ⟨w.heap.size, 0, rfl, Nat.le_refl _, Nat.lt_succ_self _, fun k x hx => ?_⟩⟩
  match k, hx with
  | 0, hx =>
    simp at hx
    subst hx
    exact ⟨by simp, by simp⟩
/-- Grant with a literal list, as one statement calls it: the list's block lies ahead of the call. -/
theorem grant_lit (w : World) : Calls Tryz.prog 37 #[.int .i64 3, .slice (some ⟨w.heap.size, 0, none⟩) 1 1] (w.alloc (.cells #[.int .i64 5, .string ⟨#[]⟩] 62)) fun e w' =>
    ∃ A1 m1 A2 m2, e = .returned (.agg #[.int .u32 2, .slice A1 1 m1, .slice A2 1 m2, .int .u32 3]) ∧ Hid (TxAt w' w.heap.size w'.heap.size (.slice A1 1 m1) (.slice A2 1 m2) gX) ∧ Hid (Below w.heap.size w w') := by
  have hb : Below w.heap.size w (w.alloc (.cells #[.int .i64 5, .string ⟨#[]⟩] 62)) := (Below.refl _ _).alloc (Nat.le_refl _) _
  refine (grant_any 3 _ [⟨5, ⟨#[]⟩⟩] _ _ _ (outs_lit w 5 ⟨#[]⟩) (by simp) (by simp)).mono ?_
  rintro e w1 ⟨vi, vo, rfl, ht, hb1⟩
  obtain ⟨A1, m1, h1⟩ := ht.1.form
  obtain ⟨A2, m2, h2⟩ := ht.2.form
  subst h1 h2
  exact ⟨A1, m1, A2, m2, rfl, Lib.hid (ht.wide (by simp) (Nat.le_refl _)), Lib.hid (below_next hb (by simp) hb1)⟩

/-- A block of that transaction, applied. -/
theorem apply_lit (a b : Nat) (l : List Co.EnD) (h : Int) (w0 w : World) (lo : Nat) (A1 A2 : Option Addr) (m1 m2 : Nat) (hs : Co.SetIs w a b l) (ha : Co.Arg l) (hl : l.length ≤ 100) (ht : TxAt w lo w.heap.size (.slice A1 1 m1) (.slice A2 1 m2) gX) (hlo : lo ≤ w.heap.size)
    (hd : Dr w) (h3 : 3 ≤ a) (h4 : 3 ≤ b) (h5 : a < lo) (h6 : b < lo) (h7 : w0 = w) :
    Calls Tryz.prog 11 #[.pointer (some ⟨a, 0, none⟩), .slice (some ⟨w.heap.size, 0, none⟩) 1 1, .int .i64 h] (w0.alloc (.cells #[.int .u32 2, .slice A1 1 m1, .slice A2 1 m2, .int .u32 3] 51)) fun e w' =>
      Hid (ApEnd a b l (blkA l [gX] h) (w.alloc (.cells #[.int .u32 2, .slice A1 1 m1, .slice A2 1 m2, .int .u32 3] 51)) e w') := by
  subst h7
  have hb : Below w0.heap.size w0 (w0.alloc (.cells #[.int .u32 2, .slice A1 1 m1, .slice A2 1 m2, .int .u32 3] 51)) := (Below.refl _ _).alloc (Nat.le_refl _) _
  have hT := Txs.one w0 lo gX _ _ ht hlo
  refine (blk_any a b l [gX] h _ _ _ lo (w0.heap.size + 1) (hs.below hb hs.lta hs.ltb) ha hT (by simp) (fun i hi => ?_) (fun t ht => by obtain rfl := List.mem_singleton.1 ht; exact gx_ok) (by decide) ?_ (hd.below hb) h3 h4).mono fun e w' h => Lib.hid h
  · simp at hi
    rcases hi with rfl | rfl <;> exact .inl (by omega)
  · show l.length + 1 ≤ 900
    omega

end Go.Proofs.YtnmfjnfdnjjngaaGreatDoor

namespace Go.Proofs.YtnmfjnfdnjjngaaGreatDoor
open Go.RowKit
set_option maxRecDepth 100000

set_option maxHeartbeats 4000000 in
theorem wakes_any (w : World) (hd : Dr w) : Calls Tryz.prog 19 #[] w fun e w' => e = .returned (.bool true) ∧ Below w.heap.size w w' := by
  have HD := Lib.hid hd
  have h3 := hd.lt
  have GL := Lib.hid grant_lit
  have CN := Co.new_any w
  clear hd
  go_enter Tryz.func19, Tryz.ntmps19
  go_wp2_with fail
  refine CN.mono ?_
  rintro e w1 ⟨rfl, s1, b1, z1⟩
  have S1 := Lib.hid s1
  have B1 := Lib.hid b1
  have Z1 := Lib.hid z1
  have D1 := Lib.hid (HD.out.below b1)
  clear s1 b1 CN z1
  obtain ⟨a, ha⟩ : ∃ a, a = w.heap.size + 1 := ⟨_, rfl⟩
  rw [← ha] at S1 ⊢
  have HA := Lib.hid ha
  clear ha
  go_wp2_with fail
  refine (GL.out w1).mono ?_
  rintro e w2 ⟨A1, m1, A2, m2, rfl, T2, B2⟩
  have C2 := apply_lit a w.heap.size [] 3 w2 w2 w1.heap.size A1 A2 m1 m2 (S1.out.below B2.out S1.out.lta S1.out.ltb) Co.Arg.nil (by decide) T2.out B2.out.size (D1.out.below B2.out) (by have := HA.out; omega) (by omega) S1.out.lta S1.out.ltb rfl
  have HC2 := Lib.hid C2
  clear C2
  go_wp2_with fail
  refine HC2.out.mono ?_
  rintro e w3 ⟨hs, ht, he⟩
  rw [gx_blk] at hs he
  rcases he with ⟨_, vs, vm, rfl, E1, E2⟩ | ⟨h0, _⟩
  case inr => exact absurd rfl h0
  rw [show Co.lessL [] ([gE] : List Co.EnD) = [] from rfl] at E1
  rw [ge_less1] at E2
  obtain ⟨As, cs, rfl⟩ : ∃ A c, vs = .slice A 0 c := E1.form
  obtain ⟨Am, cm, rfl⟩ : ∃ A c, vm = .slice A 1 c := E2.form
  have z2 := B2.out.size
  have z3 : w2.heap.size + 1 ≤ w3.heap.size := by have := ht.size; simp at this; exact this
  have hT3 : Below w.heap.size w w3 := Tn.below (((B1.out.trans (B2.out.mono (by have := B1.out.size; omega)))).alloc (by have := B1.out.size; omega) _) ht (by intro i hi; simp at hi; have := HA.out; omega) (by have := B1.out.size; simp; omega)
  have HW3 := Lib.hid hT3
  have E1' := Lib.hid E1
  have E2' := Lib.hid E2
  have S3 := Lib.hid hs
  have D3 := Lib.hid (HD.out.below hT3)
  obtain ⟨w4, hw4⟩ : ∃ w4, w4 = w3.alloc (.cells #[.slice As 0 cs, .slice Am 1 cm] 31) := ⟨_, rfl⟩
  have b4 : Below w3.heap.size w3 w4 := by rw [hw4]; exact (Below.refl _ _).alloc (Nat.le_refl _) _
  have h4 : w4.heap[w3.heap.size]? = some (.cells #[.slice As 0 cs, .slice Am 1 cm] 31 (0, 0)) := by rw [hw4]; exact heap_alloc_new _ _
  have c40 : w4.cell? ⟨w3.heap.size, 0, none⟩ = some (.slice As 0 cs) := Co.cell_in h4 rfl
  have c41 : w4.cell? ⟨w3.heap.size, 1, none⟩ = some (.slice Am 1 cm) := Co.cell_in h4 rfl
  have B4 := Lib.hid b4
  have H4 := Lib.hid h4
  have hz4 : w4.heap.size = w3.heap.size + 1 := by rw [hw4]; simp
  have HZ4 := Lib.hid hz4
  have lt3 : w3.heap.size < w4.heap.size := by omega
  have S4 := Lib.hid (S3.out.below b4 S3.out.lta S3.out.ltb)
  have D4 := Lib.hid (D3.out.below b4)
  have W4 := Lib.hid (show w3.alloc (.cells #[.slice As 0 cs, .slice Am 1 cm] 31) = w4 from hw4.symm)
  have CT := Lib.hid (Co.total_any a w.heap.size [gE] w4 S4.out)
  rw [ge_tot] at CT
  have la4 := S4.out.lta
  have lb4 := S4.out.ltb
  clear hs E1 E2 hw4 b4 h4 hT3 ht HC2 hz4
  go_upto_region 3 with (fail)
  rw [W4.out]
  go_wp2_with fail
  refine CT.out.mono ?_
  rintro e wx ⟨rfl, hwx⟩
  subst wx
  go_wp2_with fail
  refine (GL.out w4).mono ?_
  rintro e w5 ⟨A3, m3, A4, m4, rfl, T5, B5⟩
  have C5 := apply_lit a w.heap.size [gE] 4 w5 w5 w4.heap.size A3 A4 m3 m4 (S4.out.below B5.out S4.out.lta S4.out.ltb) ge_arg (by decide) T5.out B5.out.size (D4.out.below B5.out) (by have := HA.out; omega) (by omega) S4.out.lta S4.out.ltb rfl
  rw [gx_late] at C5
  have HC5 := Lib.hid C5
  clear C5
  go_wp2_with fail
  refine HC5.out.mono ?_
  rintro e w6 ⟨hs, ht, he⟩
  rcases he with ⟨h0, _⟩ | ⟨_, v6, rfl, E6⟩
  case inl => exact absurd h0 (by decide)
  have z5 := B5.out.size
  have z6 : w5.heap.size + 1 ≤ w6.heap.size := by have := ht.size; simp at this; exact this
  have hT6 : Below w4.heap.size w4 w6 → True := fun _ => trivial
  have TN6 := Lib.hid ((Tn.of_below (s := [a, w.heap.size]) (w := w4) (w' := w5.alloc (.cells #[.int .u32 2, .slice A3 1 m3, .slice A4 1 m4, .int .u32 3] 51)) (by have := B5.out.alloc (o := (.cells #[.int .u32 2, .slice A3 1 m3, .slice A4 1 m4, .int .u32 3] 51)) z5; exact this)).trans ht)
  have S6 := Lib.hid hs
  have HE6 := Lib.hid E6
  obtain ⟨w7, hw7⟩ : ∃ w7, w7 = w6.alloc (.cells #[.slice none 0 0, .slice none 0 0] 31) := ⟨_, rfl⟩
  have b7 : Below w6.heap.size w6 w7 := by rw [hw7]; exact (Below.refl _ _).alloc (Nat.le_refl _) _
  have TN7 := Lib.hid (TN6.out.next b7)
  have S7 := Lib.hid (S6.out.below b7 S6.out.lta S6.out.ltb)
  have HE7 := Lib.hid (HE6.out.below b7)
  have W7 := Lib.hid (show w6.alloc (.cells #[.slice none 0 0, .slice none 0 0] 31) = w7 from hw7.symm)
  clear hs hw7 b7 E6 ht hT6 HC5
  have D7 := Lib.hid (D4.out.tn TN7.out (by intro i hi; simp at hi; have := HA.out; omega))
  have ha4 : a < w3.heap.size := S3.out.lta
  have hb4' : w.heap.size < w3.heap.size := S3.out.ltb
  have hn3 : w3.heap.size ∉ [a, w.heap.size] := by simp; omega
  have c70 := (TN7.out.cell (o := 0) lt3 hn3).trans c40
  have c71 := (TN7.out.cell (o := 1) lt3 hn3).trans c41
  have z7 := TN7.out.size
  have hlo : ∀ i ∈ [a, w.heap.size], i < (w2.alloc (.cells #[.int .u32 2, .slice A1 1 m1, .slice A2 1 m2, .int .u32 3] 51)).heap.size ∨ w3.heap.size ≤ i := by
    intro i hi
    have h1 := S1.out.lta
    have h2 := S1.out.ltb
    simp at hi
    rcases hi with rfl | rfl <;> exact .inl (by simp; omega)
  have K7 := Lib.hid (show Kept (w2.alloc (.cells #[.int .u32 2, .slice A1 1 m1, .slice A2 1 m2, .int .u32 3] 51)).heap.size w3.heap.size w3 w7 from fun i h1 h2 => (TN7.out.kept hlo (by omega) i h1 h2).trans (B4.out.block i h2))
  have CR := Lib.hid (revert_any a w.heap.size [] [gE] [] [gE] As Am cs cm w7 _ _ S7.out (E1'.out.keep K7.out) (E2'.out.keep K7.out) (by omega) hlo (by simp) (fun x hx => by
    obtain rfl := List.mem_singleton.1 hx
    exact outE_ok (idD_size gX) (by decide) ⟨by decide, by decide, by decide⟩ (by decide) (by decide)) (by decide) (by decide) (fun _ => ⟨Co.Good.nil, Co.Arg.nil, rfl, ge_less1.symm⟩))
  clear c40 c41 hn3 hlo CT
  go_upto_region 5 with (fail)
  rw [W7.out]
  go_wp2_with fail
  refine CR.out.mono ?_
  rintro e w8 ⟨c, l', rfl, hs, ht, h⟩
  rcases h with ⟨_, _, x, hx, hf⟩ | ⟨rfl, rfl, _⟩
  case inl =>
    obtain rfl := List.mem_singleton.1 hx
    rw [ge_in] at hf
    cases hf
  have hn3' : w3.heap.size ∉ [a, w.heap.size] := by simp; omega
  have lt7 : w3.heap.size < w7.heap.size := by omega
  have c80 := (ht.cell (o := 0) lt7 hn3').trans c70
  have c81 := (ht.cell (o := 1) lt7 hn3').trans c71
  have HE8 := Lib.hid (HE7.out.keep ht.size (fun b hb hb2 => ht.block b hb2 (by simp; simp at hb; omega)))
  have D8 := Lib.hid (D7.out.tn ht (by intro i hi; simp at hi; have := HA.out; omega))
  have S8 := Lib.hid hs
  have TN8 := Lib.hid (TN7.out.trans ht)
  have CI := Lib.hid (is_errw HE8.out (f := 4) (by decide))
  have CP := Lib.hid (place_errw HE8.out D8.out.err)
  have eqn : ∀ V : World, (binOp .eql 33 .nilIface .nilIface).run Tryz.prog V = .ok (.bool true) V := fun V => by kernel_rfl
  clear c70 c71 ht hs hn3'
  go_wp2_with fail
  refine CI.out.mono ?_
  rintro e wx ⟨rfl, hwx⟩
  subst wx
  go_wp2_with fail
  refine CP.out.mono ?_
  rintro e w9 ⟨rfl, hb9⟩
  have CL := Lib.hid (Co.len_any a w.heap.size [] w9 (S8.out.below hb9 S8.out.lta S8.out.ltb))
  have B9 := Lib.hid hb9
  clear hb9
  go_wp2_with fail
  refine CL.out.mono ?_
  rintro e wx ⟨rfl, hwx⟩
  subst wx
  go_wp2_with fail
  go_ret
  refine ⟨rfl, ?_⟩
  have F4 : Below w.heap.size w w4 := HW3.out.trans (B4.out.mono (by omega))
  have F8 : Below w.heap.size w w8 := Tn.below F4 TN8.out (by intro i hi; simp at hi; have := HA.out; omega) (by omega)
  exact below_next F8 F8.size B9.out

end Go.Proofs.YtnmfjnfdnjjngaaGreatDoor
