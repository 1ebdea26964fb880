/-
  Layer 7's calls, and the document's answers for them.
  The point of an Out, and what the document fixes of layer 7.
  What the document fixes of layer 7: the first example.
  The document's ids, weight and size.
  What a block does to coins, as plain functions (P12.1).
-/
import Derived.Test.YtnmfjnfdnjjngaaGreatDoorMByt
import Derived.Test.YtnmfjnfdnjjngaaGreatDoorMHrsum
import Derived.Test.YtnmfjnfdnjjngaaGreatDoorMTell
import Derived.Test.YtnmfjnfdnjjngaaGreatDoorMLop
import Derived.Test.YtnmfjnfdnjjngaaGreatDoorMRlong
import Derived.Test.YtnmfjnfdnjjngaaGreatDoorMBls

namespace Go.Proofs.YtnmfjnfdnjjngaaGreatDoor
open Go.RowKit
set_option maxRecDepth 100000

theorem wire_le {t : TxD} (hok : t.Ok) (m : Bool) : 4 ≤ (wireS t m).size ∧ (wireS t m).size ≤ 1000000 := by
  have a1 := putS_le t.ver 4
  have a2 := putS_le t.lock 4
  have a3 := markS_le m
  have a4 := vstr_le t.ins.length
  have a5 := vstr_le t.outs.length
  have a6 := ins_le hok t.ins.length
  have a7 := outs_le hok t.outs.length
  have a8 := wits_le hok t.ins.length
  rw [List.take_length] at a6 a7 a8
  have a9 : (witsS m t.ins).size ≤ 565760 := by
    unfold witsS
    split
    · exact a8
    · simp
  have b1 : (Vi.putS t.ver 4).size = 4 := Vi.putS_sz4 _
  simp only [wireS, ByteArray.size_append]
  omega
theorem enc_le {t : TxD} (hok : t.Ok) (m : Bool) : (encS t m).size ≤ 1000000 := by
  unfold encS
  split
  · exact (wire_le hok m).2
  · exact Nat.zero_le _

/-- The digest's digest. -/
def dd (s : ByteArray) : ByteArray := Sh.digest (Sh.digest s)
/-- What 'digest' answers beside an error, and without. -/
def ddE (s : ByteArray) (e : Int) : ByteArray := if e = 0 then dd s else ⟨#[]⟩
def idS (t : TxD) : ByteArray := if checkD t = 0 then dd (wireS t false) else ⟨#[]⟩
def whS (t : TxD) : ByteArray := if checkD t = 0 then dd (wireS t (hasW t)) else ⟨#[]⟩
def wtN (t : TxD) : Int := if checkD t = 0 then 3 * ((wireS t false).size : Int) + ((wireS t (hasW t)).size : Int) else 0
def szN (t : TxD) : Int := if checkD t = 0 then (wtN t + 3) / 4 else 0
theorem dd_bare (t : TxD) : ddE (encS t false) (checkD t) = idS t := by
  unfold ddE idS encS
  by_cases h : checkD t = 0
  · rw [if_pos h, if_pos h, if_pos h]
  · rw [if_neg h, if_neg h]
theorem dd_whole (t : TxD) : ddE (encS t (hasW t)) (checkD t) = whS t := by
  unfold ddE whS encS
  by_cases h : checkD t = 0
  · rw [if_pos h, if_pos h, if_pos h]
  · rw [if_neg h, if_neg h]

set_option maxHeartbeats 1000000 in
theorem digest_any (s : ByteArray) (e : Int) (w : World) (hs : s.size ≤ 1000000) (hT : Sh.Tabs w) :
    Calls Tryz.prog 111 #[.string s, .int .i64 e] w fun x w' => x = .returned (.tuple #[.string (ddE s e), .int .i64 e]) ∧ Below w.heap.size w w' := by
  have C40 := Lib.hid (Sh.twice_any s w (by omega) hT)
  by_cases he : e = 0
  · subst he
    have E := Lib.hid (show ddE s 0 = dd s from if_pos rfl)
    go_enter Tryz.func111, Tryz.ntmps111
    go_wp2_with fail
    refine C40.out.mono ?_
    rintro x w1 ⟨rfl, hb1⟩
    go_wp2_with fail
    go_ret2
    exact ⟨wr_ret_se E.out.symm rfl, hb1⟩
  · have e1 : (e != 0) = true := by simpa using he
    have E := Lib.hid (show ddE s e = ⟨#[]⟩ from if_neg he)
    clear he
    go_enter Tryz.func111, Tryz.ntmps111
    go_wp2_with fail
    go_ret2
    exact ⟨wr_ret_se E.out.symm rfl, Below.refl _ _⟩

set_option maxHeartbeats 1000000 in
set_option maxRecDepth 100000 in
theorem ident_any (t : TxD) (vi vo : Value) (w : World) (ht : TxAt w 0 w.heap.size vi vo t) (hok : t.Ok) (hT : Sh.Tabs w) :
    Calls Tryz.prog 85 #[.agg #[.int .u32 t.ver, vi, vo, .int .u32 t.lock]] w fun x w' => x = .returned (.tuple #[.string (idS t), .int .i64 (checkD t)]) ∧ Below w.heap.size w w' := by
  have HT := Lib.hid ht
  have HO := Lib.hid hok
  have HA := Lib.hid hT
  clear ht hok hT
  have B0 := Lib.hid (fun o => (Below.refl w.heap.size w).alloc (Nat.le_refl _) o)
  go_enter Tryz.func85, Tryz.ntmps85
  go_wp2_with fail
  refine (bare_any t vi vo _ ((HT.out.keep (Kept.of_below (B0.out _) (Nat.le_refl _))).wide (Nat.le_refl _) (by simp)) HO.out).mono ?_
  rintro x w1 ⟨rfl, hb1⟩
  have K1 := Lib.hid (below_next (B0.out _) (by simp) hb1)
  clear hb1
  go_wp2_with fail
  refine (digest_any (encS t false) (checkD t) w1 (enc_le HO.out false) (HA.out.below K1.out)).mono ?_
  rintro x w2 ⟨rfl, hb2⟩
  go_wp2_with fail
  go_ret2
  exact ⟨wr_ret_se (dd_bare t) rfl, below_next K1.out K1.out.size hb2⟩

theorem ret_ne {a b c d : Int} (h : a = b) (h2 : c = d) : Ending.returned (.tuple #[.int .i64 a, .int .i64 c]) = .returned (.tuple #[.int .i64 b, .int .i64 d]) := by rw [h, h2]

theorem wtN_bd {t : TxD} (hok : t.Ok) : 0 ≤ wtN t ∧ wtN t ≤ 4000000 := by
  have h1 := (wire_le hok false).2
  have h2 := (wire_le hok (hasW t)).2
  unfold wtN
  split <;> omega

end Go.Proofs.YtnmfjnfdnjjngaaGreatDoor

namespace Go.Proofs.YtnmfjnfdnjjngaaGreatDoor
open Go.RowKit

/-- The error of Pays, its point's id and place. -/
def pyE (t : TxD) (i : Int) : Int := if checkD t = 0 then (if i < 0 ∨ (t.outs.length : Int) ≤ i then 2 else 0) else checkD t
def pyS (t : TxD) (i : Int) : ByteArray := if pyE t i = 0 then dd (wireS t false) else ⟨#[]⟩
def pyI (t : TxD) (i : Int) : Int := if pyE t i = 0 then i else 0

theorem ret_pe {a b : ByteArray} {i j e f : Int} (h : a = b) (h2 : i = j) (h3 : e = f) : Ending.returned (.tuple #[.agg #[.string a, .int .u32 i], .int .i64 e]) = .returned (.tuple #[.agg #[.string b, .int .u32 j], .int .i64 f]) := by rw [h, h2, h3]

end Go.Proofs.YtnmfjnfdnjjngaaGreatDoor

namespace Go.Proofs.YtnmfjnfdnjjngaaGreatDoor
open Go.RowKit

/-- The grant of height 0 with one Out of 0. -/
def gT : TxD := grantD 0 [⟨0, ⟨#[]⟩⟩]
theorem g_check : checkD gT = 0 := by decide +kernel
theorem g_weight : wtN gT = 240 := by decide +kernel
theorem g_size : szN gT = 60 := by decide +kernel
theorem g_pays : pyE gT 1 = 2 := by decide +kernel
theorem g_ident : (idS gT).size = 32 := by
  unfold idS
  rw [if_pos g_check]
  exact Sh.digest_size _
theorem gT_ok : gT.Ok := by
  refine ⟨by decide, by decide, ?_, ?_, by decide, by decide, by decide, by decide⟩
  · intro x hx
    have : x = ⟨zeros, 4294967295, 4294967295, []⟩ := by simpa [gT, grantD] using hx
    subst this
    exact ⟨by decide +kernel, by decide, by decide, by decide, by decide, by decide, by simp⟩
  · intro x hx
    have : x = ⟨0, ⟨#[]⟩⟩ := by simpa [gT, grantD] using hx
    subst this
    exact ⟨by decide, by decide, by decide⟩
/-- A slice with one Out of 0. -/
theorem one_out (W : World) : Outs (W.alloc (.cells #[.int .i64 0, .string ⟨#[]⟩] 62)) W.heap.size (W.heap.size + 1) (.slice (some ⟨W.heap.size, 0, none⟩) 1 1) [⟨0, ⟨#[]⟩⟩] := by
  refine ⟨_, 1, rfl, Nat.le_refl _, .inr ⟨W.heap.size, 0, rfl, Nat.le_refl _, Nat.lt_succ_self _, fun k x hx => ?_⟩⟩
  match k, hx with
  | 0, hx =>
    simp at hx
    subst hx
    exact ⟨by simp, by simp⟩
theorem grant_one (W : World) (b : Nat) (hb : b = W.heap.size) : Calls Tryz.prog 37 #[.int .i64 0, .slice (some ⟨b, 0, none⟩) 1 1] (W.alloc (.cells #[.int .i64 0, .string ⟨#[]⟩] 62)) fun e w' => ∃ vi' vo', e = .returned (.agg #[.int .u32 2, vi', vo', .int .u32 0]) ∧ TxAt w' W.heap.size w'.heap.size vi' vo' gT ∧ Below W.heap.size W w' := by
  subst hb
  refine (grant_any 0 _ [⟨0, ⟨#[]⟩⟩] _ _ _ (one_out W) (by simp) (by simp)).mono ?_
  rintro e w1 ⟨vi, vo, rfl, ht, hb1⟩
  exact ⟨vi, vo, rfl, ht.wide (by simp) (Nat.le_refl _), below_next ((Below.refl _ _).alloc (Nat.le_refl _) _) (by simp) hb1⟩

end Go.Proofs.YtnmfjnfdnjjngaaGreatDoor

namespace Go.Proofs.YtnmfjnfdnjjngaaGreatDoor
open Go.RowKit


theorem ret_i {a b : Int} (h : a = b) : Ending.returned (.int .i64 a) = .returned (.int .i64 b) := by rw [h]

set_option maxHeartbeats 1000000 in
set_option maxRecDepth 100000 in
theorem rid_any (t : TxD) (vi vo : Value) (w : World) (ht : TxAt w 0 w.heap.size vi vo t) (hok : t.Ok) (hval : ∀ x ∈ t.outs, 0 ≤ x.val) :
    Calls Tryz.prog 55 #[.agg #[.int .u32 t.ver, vi, vo, .int .u32 t.lock]] w fun x w' => x = .returned (.string (dd (wireS t false))) ∧ Below w.heap.size w w' := by
  have HT := Lib.hid ht
  have HO := Lib.hid hok
  have HV := Lib.hid hval
  clear ht hok hval
  have B0 := Lib.hid (fun o => (Below.refl w.heap.size w).alloc (Nat.le_refl _) o)
  go_enter Tryz.func55, Tryz.ntmps55
  go_wp2_with fail
  refine (bytes_any t vi vo true _ ((HT.out.keep (Kept.of_below (B0.out _) (Nat.le_refl _))).wide (Nat.le_refl _) (by simp)) HO.out HV.out).mono ?_
  rintro x w1 ⟨rfl, hb1⟩
  have K1 := Lib.hid (below_next (B0.out _) (by simp) hb1)
  clear hb1
  go_wp2_with fail
  refine (Sh.rtwice_any (wireS t false) w1 (Nat.le_trans (wire_le HO.out false).2 (by omega))).mono ?_
  rintro x w2 ⟨rfl, hb2⟩
  go_wp2_with fail
  go_ret
  exact ⟨rfl, below_next K1.out K1.out.size hb2⟩

/-- The document's weight of a transaction. -/
def wtD (t : TxD) : Int := 3 * ((wireS t false).size : Int) + ((wireS t (hasW t)).size : Int)
theorem wtD_bd {t : TxD} (hok : t.Ok) : 0 ≤ wtD t ∧ wtD t ≤ 4000000 := by
  have h1 := (wire_le hok false).2
  have h2 := (wire_le hok (hasW t)).2
  unfold wtD
  omega

end Go.Proofs.YtnmfjnfdnjjngaaGreatDoor

namespace Go.Proofs.YtnmfjnfdnjjngaaGreatDoor
open Go.RowKit
set_option maxRecDepth 100000

/-- The coin of an Out. -/
def outE (id : ByteArray) (h : Int) (i : Nat) (x : OutD) : Co.EnD := ⟨id, i, x.val, x.scr, h⟩
/-- Outs put in, from place i on: the coins then, and the first error. -/
def paysL (id : ByteArray) (h : Int) : List OutD → Nat → List Co.EnD → List Co.EnD × Int
  | [], _, l => (l, 0)
  | x :: r, i, l => if Co.putE l (outE id h i x) = 0 then paysL id h r (i + 1) (Co.putL l (outE id h i x)) else (l, Co.putE l (outE id h i x))
theorem pays_go {id : ByteArray} {h : Int} {xs : List OutD} {k : Nat} {x : OutD} {l : List Co.EnD} (hx : xs[k]? = some x) (h0 : Co.putE l (outE id h k x) = 0) :
    paysL id h (xs.drop k) k l = paysL id h (xs.drop (k + 1)) (k + 1) (Co.putL l (outE id h k x)) := by
  obtain ⟨hk, rfl⟩ := List.getElem?_eq_some_iff.1 hx
  rw [List.drop_eq_getElem_cons hk, paysL, if_pos h0]
theorem pays_stop {id : ByteArray} {h : Int} {xs : List OutD} {k : Nat} {x : OutD} {l : List Co.EnD} (hx : xs[k]? = some x) (h0 : Co.putE l (outE id h k x) ≠ 0) :
    paysL id h (xs.drop k) k l = (l, Co.putE l (outE id h k x)) := by
  obtain ⟨hk, rfl⟩ := List.getElem?_eq_some_iff.1 hx
  rw [List.drop_eq_getElem_cons hk, paysL, if_neg h0]
theorem pays_end {id : ByteArray} {h : Int} {xs : List OutD} {k : Nat} {l : List Co.EnD} (hk : xs.length ≤ k) : paysL id h (xs.drop k) k l = (l, 0) := by
  rw [List.drop_eq_nil_of_le hk, paysL]
/-- A transaction's id. -/
def idD (t : TxD) : ByteArray := dd (wireS t false)
theorem idD_size (t : TxD) : (idD t).size = 32 := Sh.digest_size _
theorem idS_ok {t : TxD} (h : checkD t = 0) : idS t = idD t := if_pos h
/-- What is wrong with a grant. -/
def grE (t : TxD) (first : Bool) (h : Int) : Int := if checkD t ≠ 0 then checkD t else if (first && (t.lock == h)) = false then 4 else 0
theorem gr_check {t : TxD} {first : Bool} {h : Int} (h1 : checkD t ≠ 0) : grE t first h = checkD t := if_pos h1
theorem gr_form {t : TxD} {first : Bool} {h : Int} (h1 : checkD t = 0) (h2 : (first && (t.lock == h)) = false) : grE t first h = 4 := by unfold grE; rw [if_neg (by simp [h1]), if_pos h2]
theorem gr_ok {t : TxD} {first : Bool} {h : Int} (h1 : checkD t = 0) (h2 : (first && (t.lock == h)) = true) : grE t first h = 0 := by unfold grE; rw [if_neg (by simp [h1]), if_neg (by simp [h2])]
theorem gr_zero {t : TxD} {first : Bool} {h : Int} (h0 : grE t first h = 0) : checkD t = 0 := by
  by_cases h1 : checkD t = 0
  · exact h1
  · rw [gr_check h1] at h0; exact h0
/-- Coins, an error's number, the place of an In. -/
structure OneA where
  l : List Co.EnD
  code : Int
  inn : Int
/-- One transaction of a block: with an error the coins are as they are told where it stopped. -/
def oneA (l : List Co.EnD) (t : TxD) (first : Bool) (h : Int) : OneA :=
  if isBase t.ins = true then
    if grE t first h ≠ 0 then ⟨l, grE t first h, -1⟩ else ⟨(paysL (idD t) h t.outs 0 l).1, (paysL (idD t) h t.outs 0 l).2, -1⟩
  else if (feA l t h).code ≠ 0 then ⟨l, (feA l t h).code, (feA l t h).at_⟩
  else ⟨(paysL (idD t) h t.outs 0 (dels l t t.ins.length)).1, (paysL (idD t) h t.outs 0 (dels l t t.ins.length)).2, -1⟩
theorem one_grant_no {l : List Co.EnD} {t : TxD} {first : Bool} {h : Int} (h1 : isBase t.ins = true) (h2 : grE t first h ≠ 0) : oneA l t first h = ⟨l, grE t first h, -1⟩ := by unfold oneA; rw [if_pos h1, if_pos h2]
theorem one_grant {l : List Co.EnD} {t : TxD} {first : Bool} {h : Int} (h1 : isBase t.ins = true) (h2 : grE t first h = 0) : oneA l t first h = ⟨(paysL (idD t) h t.outs 0 l).1, (paysL (idD t) h t.outs 0 l).2, -1⟩ := by unfold oneA; rw [if_pos h1, if_neg (by simp [h2])]
theorem one_fee_no {l : List Co.EnD} {t : TxD} {first : Bool} {h : Int} (h1 : isBase t.ins = false) (h2 : (feA l t h).code ≠ 0) : oneA l t first h = ⟨l, (feA l t h).code, (feA l t h).at_⟩ := by unfold oneA; rw [if_neg (by simp [h1]), if_pos h2]
theorem one_fee {l : List Co.EnD} {t : TxD} {first : Bool} {h : Int} (h1 : isBase t.ins = false) (h2 : (feA l t h).code = 0) :
    oneA l t first h = ⟨(paysL (idD t) h t.outs 0 (dels l t t.ins.length)).1, (paysL (idD t) h t.outs 0 (dels l t t.ins.length)).2, -1⟩ := by unfold oneA; rw [if_neg (by simp [h1]), if_neg (by simp [h2])]
/-- Being the first one makes a difference to a grant alone. -/
theorem one_first {l : List Co.EnD} {t : TxD} {a b : Bool} {h : Int} (h1 : isBase t.ins = false) : oneA l t a h = oneA l t b h := by
  by_cases h2 : (feA l t h).code = 0
  · rw [one_fee h1 h2, one_fee h1 h2]
  · rw [one_fee_no h1 h2, one_fee_no h1 h2]
/-- Coins, an error's number, the places of the transaction and of the In. -/
structure BlkA where
  l : List Co.EnD
  code : Int
  at_ : Int
  inn : Int
def blkF (h : Int) : List TxD → Nat → List Co.EnD → BlkA
  | [], _, l => ⟨l, 0, -1, -1⟩
  | t :: r, i, l => if (oneA l t (i == 0) h).code = 0 then blkF h r (i + 1) (oneA l t (i == 0) h).l else ⟨(oneA l t (i == 0) h).l, (oneA l t (i == 0) h).code, i, (oneA l t (i == 0) h).inn⟩
theorem blk_go {h : Int} {xs : List TxD} {k : Nat} {t : TxD} {l : List Co.EnD} (hx : xs[k]? = some t) (h0 : (oneA l t (k == 0) h).code = 0) :
    blkF h (xs.drop k) k l = blkF h (xs.drop (k + 1)) (k + 1) (oneA l t (k == 0) h).l := by
  obtain ⟨hk, rfl⟩ := List.getElem?_eq_some_iff.1 hx
  rw [List.drop_eq_getElem_cons hk, blkF, if_pos h0]
theorem blk_stop {h : Int} {xs : List TxD} {k : Nat} {t : TxD} {l : List Co.EnD} (hx : xs[k]? = some t) (h0 : (oneA l t (k == 0) h).code ≠ 0) :
    blkF h (xs.drop k) k l = ⟨(oneA l t (k == 0) h).l, (oneA l t (k == 0) h).code, k, (oneA l t (k == 0) h).inn⟩ := by
  obtain ⟨hk, rfl⟩ := List.getElem?_eq_some_iff.1 hx
  rw [List.drop_eq_getElem_cons hk, blkF, if_neg h0]
theorem blk_end {h : Int} {xs : List TxD} {k : Nat} {l : List Co.EnD} (hk : xs.length ≤ k) : blkF h (xs.drop k) k l = ⟨l, 0, -1, -1⟩ := by
  rw [List.drop_eq_nil_of_le hk, blkF]
/-- P12.1: what a block comes to. -/
def blkA (l : List Co.EnD) (xs : List TxD) (h : Int) : BlkA :=
  if (decide (0 ≤ h) && decide (h ≤ 1000000)) = false then ⟨l, 3, -1, -1⟩
  else if (blkF h xs 0 l).code = 0 then blkF h xs 0 l else ⟨l, (blkF h xs 0 l).code, (blkF h xs 0 l).at_, (blkF h xs 0 l).inn⟩
theorem blk_range {l : List Co.EnD} {xs : List TxD} {h : Int} (h1 : (decide (0 ≤ h) && decide (h ≤ 1000000)) = false) : blkA l xs h = ⟨l, 3, -1, -1⟩ := if_pos h1
theorem blk_ok {l : List Co.EnD} {xs : List TxD} {h : Int} (h1 : 0 ≤ h) (h2 : h ≤ 1000000) (h3 : (blkF h xs 0 l).code = 0) : blkA l xs h = blkF h xs 0 l := by
  unfold blkA
  rw [if_neg (by simp [h1, h2]), if_pos h3]
theorem blk_no {l : List Co.EnD} {xs : List TxD} {h : Int} (h1 : 0 ≤ h) (h2 : h ≤ 1000000) (h3 : (blkF h xs 0 l).code ≠ 0) : blkA l xs h = ⟨l, (blkF h xs 0 l).code, (blkF h xs 0 l).at_, (blkF h xs 0 l).inn⟩ := by
  unfold blkA
  rw [if_neg (by simp [h1, h2]), if_neg h3]

/-! ### What stays good -/

theorem outE_ok {id : ByteArray} {h : Int} {i : Nat} {x : OutD} (h1 : id.size = 32) (h2 : i ≤ 512) (hx : x.Ok) (h3 : 0 ≤ h) (h4 : h ≤ 1000000) : (outE id h i x).Ok :=
  ⟨⟨by show id.size ≤ 64; omega, by show (0 : Int) ≤ (i : Int); omega, by show (i : Int) ≤ 4294967295; omega⟩, hx.1, hx.2.1, hx.2.2, by show -9223372036854775808 ≤ h; omega, by show h ≤ 9223372036854775807; omega⟩
theorem pays_keeps {id : ByteArray} {h : Int} (h1 : id.size = 32) (h3 : 0 ≤ h) (h4 : h ≤ 1000000) : ∀ (xs : List OutD) (i : Nat) (l : List Co.EnD), (∀ x ∈ xs, x.Ok) → i + xs.length ≤ 512 → Co.Good l → Co.Arg l →
    Co.Good (paysL id h xs i l).1 ∧ Co.Arg (paysL id h xs i l).1 ∧ (paysL id h xs i l).1.length ≤ l.length + xs.length
  | [], _, l, _, _, hg, ha => ⟨hg, ha, Nat.le_refl _⟩
  | x :: r, i, l, hx, hn, hg, ha => by
    rw [List.length_cons] at hn
    rw [paysL]
    split
    · obtain ⟨a, b, c⟩ := pays_keeps h1 h3 h4 r (i + 1) (Co.putL l (outE id h i x)) (fun y hy => hx y (by simp [hy])) (by omega) (hg.put (outE_ok h1 (by omega) (hx x (by simp)) h3 h4)) (ha.put _)
      have := Co.putL_len l (outE id h i x)
      exact ⟨a, b, by rw [List.length_cons]; omega⟩
    · exact ⟨hg, ha, by rw [List.length_cons]; show l.length ≤ _; omega⟩
theorem dels_arg {l : List Co.EnD} (h : Co.Arg l) (t : TxD) : ∀ k, Co.Arg (dels l t k)
  | 0 => h
  | k + 1 => by
    unfold dels
    split
    · exact dels_arg h t k
    · exact (dels_arg h t k).del _ _
theorem dels_len (l : List Co.EnD) (t : TxD) : ∀ k, (dels l t k).length ≤ l.length
  | 0 => Nat.le_refl _
  | k + 1 => by
    unfold dels
    split
    · exact dels_len l t k
    · exact Nat.le_trans (Co.del_len _ _ _) (dels_len l t k)
theorem one_keeps {l : List Co.EnD} {t : TxD} {first : Bool} {h : Int} (ht : t.Ok) (h3 : 0 ≤ h) (h4 : h ≤ 1000000) (hg : Co.Good l) (ha : Co.Arg l) :
    Co.Good (oneA l t first h).l ∧ Co.Arg (oneA l t first h).l ∧ (oneA l t first h).l.length ≤ l.length + t.outs.length := by
  have ho : ∀ x ∈ t.outs, x.Ok := ht.2.2.2.1
  have hn : 0 + t.outs.length ≤ 512 := by have := ht.2.1; omega
  unfold oneA
  split
  · split
    · exact ⟨hg, ha, Nat.le_add_right _ _⟩
    · exact pays_keeps (idD_size t) h3 h4 t.outs 0 l ho hn hg ha
  · split
    · exact ⟨hg, ha, Nat.le_add_right _ _⟩
    · obtain ⟨a, b, c⟩ := pays_keeps (idD_size t) h3 h4 t.outs 0 (dels l t t.ins.length) ho hn (dels_good hg t _) (dels_arg ha t _)
      have := dels_len l t t.ins.length
      exact ⟨a, b, by show (paysL _ _ _ _ _).1.length ≤ _; omega⟩
/-- How many Outs there are in all. -/
def outsN (xs : List TxD) : Nat := (xs.map fun t => t.outs.length).sum
theorem blkF_keeps {h : Int} (h3 : 0 ≤ h) (h4 : h ≤ 1000000) : ∀ (xs : List TxD) (i : Nat) (l : List Co.EnD), (∀ t ∈ xs, t.Ok) → Co.Good l → Co.Arg l →
    Co.Good (blkF h xs i l).l ∧ Co.Arg (blkF h xs i l).l ∧ (blkF h xs i l).l.length ≤ l.length + outsN xs
  | [], _, l, _, hg, ha => ⟨hg, ha, Nat.le_add_right _ _⟩
  | t :: r, i, l, hx, hg, ha => by
    have e : outsN (t :: r) = t.outs.length + outsN r := by simp [outsN]
    obtain ⟨a, b, c⟩ := one_keeps (first := i == 0) (hx t (by simp)) h3 h4 hg ha
    rw [blkF, e]
    split
    · obtain ⟨a', b', c'⟩ := blkF_keeps h3 h4 r (i + 1) (oneA l t (i == 0) h).l (fun y hy => hx y (by simp [hy])) a b
      exact ⟨a', b', by omega⟩
    · exact ⟨a, b, by show (oneA _ _ _ _).l.length ≤ _; omega⟩
theorem blk_keeps {l : List Co.EnD} {xs : List TxD} {h : Int} (hx : ∀ t ∈ xs, t.Ok) (hg : Co.Good l) (ha : Co.Arg l) :
    Co.Good (blkA l xs h).l ∧ Co.Arg (blkA l xs h).l ∧ (blkA l xs h).l.length ≤ l.length + outsN xs := by
  unfold blkA
  split
  · exact ⟨hg, ha, Nat.le_add_right _ _⟩
  · rename_i hh
    simp only [Bool.not_eq_false, Bool.and_eq_true, decide_eq_true_eq] at hh
    split
    · exact blkF_keeps hh.1 hh.2 xs 0 l hx hg ha
    · exact ⟨hg, ha, Nat.le_add_right _ _⟩
/-- With an error the coins are as they were. -/
theorem blk_same {l : List Co.EnD} {xs : List TxD} {h : Int} (hc : (blkA l xs h).code ≠ 0) : (blkA l xs h).l = l := by
  unfold blkA at hc ⊢
  split
  · rfl
  · rename_i hh
    rw [if_neg hh] at hc
    split
    · rename_i h2
      rw [if_pos h2] at hc
      exact absurd h2 hc
    · rfl

end Go.Proofs.YtnmfjnfdnjjngaaGreatDoor
