/-
  A set and the list of the same coins beside it, as the statements of layer 12 play blocks: what their calls make of both.
-/
import Derived.Test.YtnmfjnfdnjjngaaGreatDoorMMde
import Derived.Test.YtnmfjnfdnjjngaaGreatDoorMApp
import Derived.Test.YtnmfjnfdnjjngaaGreatDoorMCpr
import Derived.Test.YtnmfjnfdnjjngaaGreatDoorMBvl
namespace Go.Proofs.YtnmfjnfdnjjngaaGreatDoor
open Go.RowKit
set_option maxRecDepth 100000

structure BSt (w : World) (a b lo : Nat) (m : List Co.EnD) (vm : Value) (N : Nat) (wr : World) : Prop where
  set : Co.SetIs wr a b m
  ents : Co.Ents wr lo wr.heap.size vm m
  arg : Co.Arg m
  len : m.length ≤ N
  bel : Below w.heap.size w wr
  le : lo ≤ wr.heap.size
  al : w.heap.size ≤ a ∧ a < lo ∧ w.heap.size ≤ b ∧ b < lo
  dr : Dr wr
  w3 : 3 ≤ w.heap.size
theorem BSt.below {w wr V : World} {a b lo N : Nat} {m : List Co.EnD} {vm : Value} (h : BSt w a b lo m vm N wr) (hb : Below wr.heap.size wr V) : BSt w a b lo m vm N V :=
  ⟨h.set.below hb h.set.lta h.set.ltb, (h.ents.keep (Kept.of_below hb (Nat.le_refl _))).wide (Nat.le_refl _) hb.size, h.arg, h.len, below_next h.bel h.bel.size hb, Nat.le_trans h.le hb.size, h.al, h.dr.below hb, h.w3⟩
theorem BSt.off {w wr : World} {a b lo N : Nat} {m : List Co.EnD} {vm : Value} (h : BSt w a b lo m vm N wr) {p hi : Nat} (hp : lo ≤ p) : ∀ i ∈ [a, b], i < p ∨ hi ≤ i := by
  intro i hi
  have := h.al
  simp at hi
  rcases hi with rfl | rfl <;> exact .inl (by omega)
/-- The set is written: the list stays. -/
theorem BSt.turn {w wr V : World} {a b lo N : Nat} {m : List Co.EnD} {vm : Value} (h : BSt w a b lo m vm N wr) (ht : Tn [a, b] wr V) : Co.Ents V lo V.heap.size vm m ∧ Below w.heap.size w V ∧ Dr V ∧ lo ≤ V.heap.size := by
  refine ⟨(h.ents.keep (ht.kept (h.off (Nat.le_refl _)) (Nat.le_refl _))).wide (Nat.le_refl _) ht.size, Tn.below h.bel ht (fun i hi => ?_) h.bel.size, h.dr.tn ht (fun i hi => ?_), Nat.le_trans h.le ht.size⟩
  · have := h.al
    simp at hi
    omega
  · have := h.al
    have := h.w3
    simp at hi
    omega
theorem BSt.same {w wr V : World} {a b lo N : Nat} {m : List Co.EnD} {vm : Value} (h : BSt w a b lo m vm N wr) (hs : Co.SetIs V a b m) (ht : Tn [a, b] wr V) : BSt w a b lo m vm N V := by
  obtain ⟨h1, h2, h3, h4⟩ := h.turn ht
  exact ⟨hs, h1, h.arg, h.len, h2, h4, h.al, h3, h.w3⟩
theorem BSt.next {w wr V U : World} {a b lo N : Nat} {m l : List Co.EnD} {vm vl : Value} (h : BSt w a b lo m vm N wr) (hs : Co.SetIs V a b l) (ht : Tn [a, b] wr V) (he : Co.Ents U lo U.heap.size vl l) (hb : Below V.heap.size V U) (ha : Co.Arg l) {N' : Nat} (hn : l.length ≤ N') : BSt w a b lo l vl N' U := by
  obtain ⟨h1, h2, h3, h4⟩ := h.turn ht
  exact ⟨hs.below hb hs.lta hs.ltb, he, ha, hn, below_next h2 h2.size hb, Nat.le_trans h4 hb.size, h.al, h3.below hb, h.w3⟩

theorem BSt.more {w wr : World} {a b lo N N' : Nat} {m : List Co.EnD} {vm : Value} (h : BSt w a b lo m vm N wr) (hn : N ≤ N') : BSt w a b lo m vm N' wr := ⟨h.set, h.ents, h.arg, Nat.le_trans h.len hn, h.bel, h.le, h.al, h.dr, h.w3⟩

/-- Behind an append to a row of one's own. -/
theorem below_of_own {w w1 : World} {o : Obj} {base : Nat} {e : TypeId} {size n : Nat} {v : Value} {xs : List Value} (hg : (w.alloc o).grownBy w1 v.ownBlock) (h : w.ownsRow base e size v n xs) (hb : base ≤ w.heap.size) : Below base w w1 := grown_below hg (own_block h) hb

theorem ErrW.fault {lo : Nat} {w : World} {v : Value} {c a n : Int} (h : ErrW lo w v c a n) (hc : c ≠ 0) : ∃ T x, v = .iface T x ∧ (T = 38 ∨ T = 92) := by
  rcases h with ⟨h, _⟩ | ⟨_, _, _, rfl⟩ | ⟨_, _, b, ve, rfl, _⟩
  · exact absurd h hc
  · exact ⟨_, _, rfl, .inl rfl⟩
  · exact ⟨_, _, rfl, .inr rfl⟩
theorem eq_errV {T : TypeId} (hT : T = 38 ∨ T = 92) (x : Value) (w : World) : (binOp .eql 33 (.iface T x) .nilIface).run Tryz.prog w = .ok (.bool false) w := by
  rcases hT with rfl | rfl <;> kernel_rfl
theorem eq_nilnil (w : World) : (binOp .eql 33 .nilIface .nilIface).run Tryz.prog w = .ok (.bool true) w := by kernel_rfl

/-- Transactions that a block may have. -/
def TsOk (p : Nat) (w : World) (v : Value) (ts : List TxD) : Prop := Txs w p w.heap.size v ts ∧ (∀ t ∈ ts, t.Ok) ∧ ts.length ≤ 5 ∧ outsN ts ≤ 20
theorem TsOk.below {p : Nat} {w V : World} {v : Value} {ts : List TxD} (h : TsOk p w v ts) (hb : Below w.heap.size w V) : TsOk p V v ts :=
  ⟨(h.1.keep (Kept.of_below hb (Nat.le_refl _))).wide (Nat.le_refl _) hb.size, h.2⟩
theorem TsOk.turn {p : Nat} {w V : World} {v : Value} {ts : List TxD} {s : List Nat} (h : TsOk p w v ts) (ht : Tn s w V) (hs : ∀ i ∈ s, i < p) : TsOk p V v ts :=
  ⟨(h.1.keep (ht.kept (fun i hi => .inl (hs i hi)) (Nat.le_refl _))).wide (Nat.le_refl _) ht.size, h.2⟩
theorem BSt.lts {w wr : World} {a b lo N : Nat} {m : List Co.EnD} {vm : Value} (h : BSt w a b lo m vm N wr) {p : Nat} (hp : lo ≤ p) : ∀ i ∈ [a, b], i < p := by
  intro i hi
  have := h.al
  simp at hi
  rcases hi with rfl | rfl <;> omega

theorem BSt.made {w wr : World} {a b lo N : Nat} {m : List Co.EnD} {Am As : Option Addr} {cm cs : Nat} {zs : List SmD} {h : Int} (hB : BSt w a b lo m (.slice Am m.length cm) N wr) (hN : N ≤ 800)
    (hz : Sms wr 0 wr.heap.size (.slice As zs.length cs) zs) (ok : SmsOk zs) (h1 : 0 ≤ h) (h2 : h ≤ 1000000) :
    Calls Tryz.prog 10 #[.slice Am m.length cm, .slice As zs.length cs, .int .i64 h] wr fun e w' => ∃ At ct ts, e = .returned (.slice At ts.length ct) ∧ Hid (TsOk wr.heap.size w' (.slice At ts.length ct) ts) ∧ Hid (Below wr.heap.size wr w') :=
  (made_any Am cm m zs As cs h wr lo wr.heap.size hB.ents (Nat.le_refl _) hB.le hB.set.good hB.arg (Nat.le_trans hB.len hN) hz ok h1 h2).mono fun e w' ⟨v, ts, he, h1, h2, h3, h4, h5⟩ => by
    obtain ⟨A, c, rfl⟩ := h1.form
    exact ⟨A, c, ts, he, Lib.hid ⟨h1, h2, h3, by omega⟩, Lib.hid h5⟩

/-- What Apply answers there. -/
def ApyEnd (a b : Nat) (m : List Co.EnD) (B : BlkA) (wr : World) (e : Ending) (w' : World) : Prop :=
  (∃ As cs Am cm, B.code = 0 ∧ e = .returned (.tuple #[.agg #[.slice As (Co.lessL m B.l).length cs, .slice Am (Co.lessL B.l m).length cm], .nilIface]) ∧
      Hid (Co.Ents w' wr.heap.size w'.heap.size (.slice As (Co.lessL m B.l).length cs) (Co.lessL m B.l) ∧ Co.Ents w' wr.heap.size w'.heap.size (.slice Am (Co.lessL B.l m).length cm) (Co.lessL B.l m)) ∧ Hid (Co.SetIs w' a b B.l) ∧ Hid (Tn [a, b] wr w')) ∨
    (∃ v, B.code ≠ 0 ∧ e = .returned (.tuple #[.agg #[.slice none 0 0, .slice none 0 0], v]) ∧ Hid (ErrW wr.heap.size w' v B.code B.at_ B.inn) ∧ Hid (Co.SetIs w' a b m) ∧ Hid (Tn [a, b] wr w'))
theorem ApyEnd.of {a b : Nat} {m : List Co.EnD} {ts : List TxD} {h : Int} {wr w' : World} {e : Ending} (k : ApEnd a b m (blkA m ts h) wr e w') : ApyEnd a b m (blkA m ts h) wr e w' := by
  obtain ⟨hs, ht, hh⟩ := k
  rcases hh with ⟨h0, vs, vm, rfl, e1, e2⟩ | ⟨h0, v, rfl, he⟩
  · obtain ⟨As, cs, rfl⟩ := e1.form
    obtain ⟨Am, cm, rfl⟩ := e2.form
    exact .inl ⟨As, cs, Am, cm, h0, rfl, Lib.hid ⟨e1, e2⟩, Lib.hid hs, Lib.hid ht⟩
  · rw [blk_same h0] at hs
    exact .inr ⟨v, h0, rfl, Lib.hid he, Lib.hid hs, Lib.hid ht⟩
theorem BSt.apply {w wr : World} {a b lo N : Nat} {m : List Co.EnD} {vm : Value} (hB : BSt w a b lo m vm N wr) (hN : N ≤ 800) {At : Option Addr} {ct p : Nat} {ts : List TxD} (hT : TsOk p wr (.slice At ts.length ct) ts) (hp : lo ≤ p) (h : Int) :
    Calls Tryz.prog 11 #[.pointer (some ⟨a, 0, none⟩), .slice At ts.length ct, .int .i64 h] wr (ApyEnd a b m (blkA m ts h) wr) :=
  (blk_any a b m ts h At ct wr p wr.heap.size hB.set hB.arg hT.1 (Nat.le_refl _) (hB.off hp) hT.2.1 (by have := hT.2.2.1; omega) (by have := hT.2.2.2; have := hB.len; omega) hB.dr (by have := hB.al; have := hB.w3; omega) (by have := hB.al; have := hB.w3; omega)).mono fun _ _ k => ApyEnd.of k
theorem BSt.rap {w wr V : World} {a b lo N : Nat} {m : List Co.EnD} {Am : Option Addr} {cm : Nat} (hB : BSt w a b lo m (.slice Am m.length cm) N wr) (ht : Tn [a, b] wr V) (hN : N ≤ 800) {At : Option Addr} {ct p : Nat} {ts : List TxD} (hT : TsOk p V (.slice At ts.length ct) ts) (h : Int) :
    Calls Tryz.prog 12 #[.slice Am m.length cm, .slice At ts.length ct, .int .i64 h] V fun e w' => ∃ A c, e = .returned (.tuple #[.slice A (blkA m ts h).l.length c, .int .i64 (blkA m ts h).code, .int .i64 (blkA m ts h).at_, .int .i64 (blkA m ts h).inn]) ∧
      Hid (Co.Ents w' lo w'.heap.size (.slice A (blkA m ts h).l.length c) (blkA m ts h).l) ∧ Hid (Below V.heap.size V w') := by
  obtain ⟨h1, h2, h3, h4⟩ := hB.turn ht
  refine (rap_any Am cm m ts h At ct V lo V.heap.size p V.heap.size h1 (Nat.le_refl _) h4 hB.set.good hB.arg hT.1 (Nat.le_refl _) hT.2.1 (by have := hT.2.2.1; omega) (by have := hT.2.2.2; have := hB.len; omega)).mono ?_
  rintro e w' ⟨v, rfl, e1, e2⟩
  obtain ⟨A, c, rfl⟩ := e1.form
  exact ⟨A, c, rfl, Lib.hid e1, Lib.hid e2⟩
theorem BSt.keeps {w wr : World} {a b lo N : Nat} {m : List Co.EnD} {vm : Value} (hB : BSt w a b lo m vm N wr) {p : Nat} {V : World} {v : Value} {ts : List TxD} (hT : TsOk p V v ts) (h : Int) : Co.Good (blkA m ts h).l ∧ Co.Arg (blkA m ts h).l ∧ (blkA m ts h).l.length ≤ N + 20 := by
  obtain ⟨h1, h2, h3⟩ := blk_keeps (h := h) hT.2.1 hB.set.good hB.arg
  exact ⟨h1, h2, by have := hT.2.2.2; have := hB.len; omega⟩
theorem BSt.start {w w1 : World} (hd : Dr w) (hs : Co.SetIs w1 (w.heap.size + 1) w.heap.size []) (hb : Below w.heap.size w w1) (hz : w1.heap.size = w.heap.size + 2) : BSt w (w.heap.size + 1) w.heap.size (w.heap.size + 2) [] (.slice none 0 0) 0 w1 :=
  ⟨hs, Co.Ents.nil _ _ _, Co.Arg.nil, Nat.le_refl _, hb, by omega, ⟨by omega, by omega, Nat.le_refl _, by omega⟩, hd.below hb, hd.lt⟩

end Go.Proofs.YtnmfjnfdnjjngaaGreatDoor
