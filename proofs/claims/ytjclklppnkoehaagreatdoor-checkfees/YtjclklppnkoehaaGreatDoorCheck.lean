/-
  May a transaction be: the program's Check.
-/
import Derived.Test.YtjclklppnkoehaaGreatDoorTwice
import Derived.Test.YtjclklppnkoehaaGreatDoorTotal
import Derived.Laws.EntriesVeiled
namespace Go.Proofs.YtjclklppnkoehaaGreatDoor
open Go.RowKit
set_option maxRecDepth 100000

/-- Has it as many parts as it may have? -/
def countsB (t : TxD) : Bool := inR t.ins.length 1 256 && inR t.outs.length 1 256 && !(t.ins.any fun x => manyB x.wit.length)
/-- Is a text too long? -/
def longB (t : TxD) : Bool := (t.outs.any fun o => decide (40 < o.scr.size)) || (t.ins.any fun x => x.wit.any fun s => decide (80 < s.size))
/-- Is a point amiss? -/
def pointsB (xs : List InD) : Bool := !(xs.any fun x => amissB (xs.length == 1) x.id x.ix)
/-- P5.1. -/
def checkD (t : TxD) : Int := if countsB t = false then 6 else if longB t = true then 20 else if pointsB t.ins = false then 4 else if twiceB t.ins = true then 7 else (totalD t.outs).2

theorem eg47 : ∀ args w, (callFunc 59 args).run Tryz.prog w = .ok (.enter 59 args) w := enters_of Tryz.func59 (by kernel_rfl) rfl
theorem eg48 : ∀ args w, (callFunc 60 args).run Tryz.prog w = .ok (.enter 60 args) w := enters_of Tryz.func60 (by kernel_rfl) rfl
theorem eg49 : ∀ args w, (callFunc 61 args).run Tryz.prog w = .ok (.enter 61 args) w := enters_of Tryz.func61 (by kernel_rfl) rfl
theorem eg50 : ∀ args w, (callFunc 62 args).run Tryz.prog w = .ok (.enter 62 args) w := enters_of Tryz.func62 (by kernel_rfl) rfl
theorem eg53 : ∀ args w, (callFunc 65 args).run Tryz.prog w = .ok (.enter 65 args) w := enters_of Tryz.func65 (by kernel_rfl) rfl

theorem countsB_ins {t : TxD} (h : inR t.ins.length 1 256 = false) : countsB t = false := by simp [countsB, h]
theorem countsB_outs {t : TxD} (h : inR t.outs.length 1 256 = false) : countsB t = false := by simp [countsB, h]
theorem countsB_items {t : TxD} (h : inR t.ins.length 1 256 = true) (h2 : inR t.outs.length 1 256 = true) : countsB t = !(t.ins.any fun x => manyB x.wit.length) := by simp [countsB, h, h2]

set_option maxHeartbeats 1000000 in
theorem counts_any (t : TxD) (vi vo : Value) (w : World) (lo hi : Nat) (ht : TxAt w lo hi vi vo t) (hhi : hi ≤ w.heap.size) (hok : t.Ok) :
    Calls Tryz.prog 40 #[.agg #[.int .u32 t.ver, vi, vo, .int .u32 t.lock]] w fun e w' => e = .returned (.bool (countsB t)) ∧ Below w.heap.size w w' := by
  obtain ⟨tv, ti, to, tl⟩ := t
  obtain ⟨A1, m1, rfl⟩ := ht.1.form
  obtain ⟨A2, m2, rfl⟩ := ht.2.form
  have HT := Lib.hid ht
  have HO := Lib.hid hok
  simp only
  clear ht hok
  have B0 := Lib.hid (fun o => (Below.refl w.heap.size w).alloc (Nat.le_refl _) o)
  cases h1 : inR ti.length 1 256
  · have E := Lib.hid (countsB_ins (t := ⟨tv, ti, to, tl⟩) h1)
    go_enter Tryz.func40, Tryz.ntmps40
    go_wp2_with (go_at_call 57; refine (within_any _ _ _ _).mono ?_; rintro e w' ⟨rfl, rfl⟩)
    go_ret
    exact ⟨ret_bool E.out.symm, B0.out _⟩
  · cases h2 : inR to.length 1 256
    · have E := Lib.hid (countsB_outs (t := ⟨tv, ti, to, tl⟩) h2)
      go_enter Tryz.func40, Tryz.ntmps40
      go_wp2_with (go_at_call 57; refine (within_any _ _ _ _).mono ?_; rintro e w' ⟨rfl, rfl⟩)
      go_ret
      exact ⟨ret_bool E.out.symm, B0.out _⟩
    · have E := Lib.hid (countsB_items (t := ⟨tv, ti, to, tl⟩) h1 h2)
      go_enter Tryz.func40, Tryz.ntmps40
      go_wp2_with (go_at_call 57; refine (within_any _ _ _ _).mono ?_; rintro e w' ⟨rfl, rfl⟩)
      refine (has_in 59 #[] eg47 (fun x => manyB x.wit.length) A1 _ m1 ti _ lo hi (HT.out.1.keep (Kept.of_below (B0.out _) hhi)) (by simp; omega) HO.out.1 ?_).mono ?_
      · intro W x A n c hx hb hs
        obtain ⟨_, _, hv, _⟩ := hs
        injection hv with _ hn
        subst hn
        exact items_any _ _ _ _ _ _ _
      rintro e w' ⟨rfl, hb'⟩
      go_wp2_with fail
      go_ret
      exact ⟨ret_bool E.out.symm, below_next (B0.out _) (by simp) hb'⟩

set_option maxHeartbeats 1000000 in
theorem hasitem_any (x : InD) (A : Option Addr) (n c g : Nat) (w : World) (lo hi : Nat) (hs : Strs w lo hi (.slice A n c) x.wit) (hhi : hi ≤ w.heap.size) (hl : x.wit.length ≤ 512) (h0 : w.cell? ⟨g, 0, none⟩ = some (.func (.func 61) #[] #[])) :
    Calls Tryz.prog 62 #[.agg #[.string x.id, .int .u32 x.ix, .int .u32 x.sq, .slice A n c], .pointer (some ⟨g, 0, none⟩)] w fun e w' => e = .returned (.bool (x.wit.any fun s => decide (80 < s.size))) ∧ Below w.heap.size w w' := by
  have hg := lt_of_cell h0
  have HS := Lib.hid hs
  clear hs
  have B0 := Lib.hid (fun o => (Below.refl w.heap.size w).alloc (Nat.le_refl _) o)
  go_enter Tryz.func62, Tryz.ntmps62
  go_wp2_with fail
  refine (has_str 61 #[] eg49 (fun s => decide (80 < s.size)) A n c x.wit _ lo hi (HS.out.keep (Kept.of_below (B0.out _) hhi)) (by simp; omega) hl ?_).mono ?_
  · intro W s _ _
    exact item_any s W
  rintro e w' ⟨rfl, hb'⟩
  go_wp2_with fail
  go_ret
  exact ⟨rfl, below_next (B0.out _) (by simp) hb'⟩

theorem longB_out {t : TxD} (h : (t.outs.any fun o => decide (40 < o.scr.size)) = true) : longB t = true := by simp [longB, h]
theorem longB_in {t : TxD} (h : (t.outs.any fun o => decide (40 < o.scr.size)) = false) : longB t = t.ins.any fun x => x.wit.any fun s => decide (80 < s.size) := by simp [longB, h]

set_option maxHeartbeats 1000000 in
theorem long_any (t : TxD) (vi vo : Value) (w : World) (lo hi : Nat) (ht : TxAt w lo hi vi vo t) (hhi : hi ≤ w.heap.size) (hok : t.Ok) :
    Calls Tryz.prog 41 #[.agg #[.int .u32 t.ver, vi, vo, .int .u32 t.lock]] w fun e w' => e = .returned (.bool (longB t)) ∧ Below w.heap.size w w' := by
  obtain ⟨tv, ti, to, tl⟩ := t
  obtain ⟨A1, m1, rfl⟩ := ht.1.form
  obtain ⟨A2, m2, rfl⟩ := ht.2.form
  have HT := Lib.hid ht
  have HO := Lib.hid hok
  simp only
  clear ht hok
  have B0 := Lib.hid (fun o o' => ((Below.refl w.heap.size w).alloc (Nat.le_refl _) o).alloc (by simp) o')
  have E1 := Lib.hid (longB_out (t := ⟨tv, ti, to, tl⟩))
  have E2 := Lib.hid (longB_in (t := ⟨tv, ti, to, tl⟩))
  go_enter Tryz.func41, Tryz.ntmps41
  go_wp2_with fail
  refine (has_out 60 #[] eg48 (fun o => decide (40 < o.scr.size)) A2 _ m2 to _ lo hi (HT.out.2.keep (Kept.of_below (B0.out _ _) hhi)) (by simp; omega) HO.out.2.1 ?_).mono ?_
  · intro W x _ _
    exact script_any _ _ _
  rintro e w' ⟨rfl, hb'⟩
  have hz : w.heap.size + 2 ≤ w'.heap.size := by have := hb'.size; simp at this; omega
  have f0 := hb'.cell (p := ⟨w.heap.size, 1, none⟩) (by simp; omega)
  have f1 := hb'.cell (p := ⟨w.heap.size + 1, 0, none⟩) (by simp)
  simp at f0 f1
  have hb2 := Lib.hid (below_next (B0.out _ _) (by simp; omega) hb')
  clear hb'
  cases h1 : to.any fun o => decide (40 < o.scr.size)
  · go_wp2_with fail
    refine (has_in 62 #[.pointer (some ⟨w.heap.size + 1, 0, none⟩)] eg50 (fun x => x.wit.any fun s => decide (80 < s.size)) A1 _ m1 ti _ lo hi (HT.out.1.keep (Kept.of_below hb2.out hhi)) (by omega) HO.out.1 ?_).mono ?_
    · intro W x A n c hx hb hs
      exact hasitem_any x A n c _ W lo hi hs (by have := hb.size; omega) (by have := (HO.out.2.2.1 x hx).2.2.2.2.2.1; omega) ((hb.cell (by show w.heap.size + 1 < _; omega)).trans f1)
    rintro e w2 ⟨rfl, hb3⟩
    go_wp2_with fail
    go_ret
    exact ⟨ret_bool (E2.out h1).symm, below_next hb2.out (by omega) hb3⟩
  · go_wp2_with fail
    go_ret
    exact ⟨ret_bool (E1.out h1).symm, hb2.out⟩

set_option maxHeartbeats 1000000 in
theorem points_any (A : Option Addr) (n c : Nat) (xs : List InD) (w : World) (lo hi : Nat) (hx : Ins w lo hi (.slice A n c) xs) (hhi : hi ≤ w.heap.size) (hl : xs.length ≤ 512) :
    Calls Tryz.prog 42 #[.slice A n c] w fun e w' => e = .returned (.bool (pointsB xs)) ∧ Below w.heap.size w w' := by
  obtain rfl : n = xs.length := by obtain ⟨_, _, hv, _⟩ := hx; injection hv
  have HX := Lib.hid hx
  clear hx
  have E := Lib.hid (show pointsB xs = !(xs.any fun x => amissB (xs.length == 1) x.id x.ix) from rfl)
  have hb1 : ((xs.length : Int) == 1) = (xs.length == 1) := by
    by_cases h : xs.length = 1
    · simp [h]
    · rw [show (xs.length == 1) = false from by simp [h]]; simp; omega
  have HB1 := Lib.hid hb1
  clear hb1
  generalize (xs.length == 1) = al at E HB1
  go_enter Tryz.func42, Tryz.ntmps42
  go_wp2_with (go_at_call 44; refine (base_point _).mono ?_; rintro e w' ⟨rfl, hb'⟩)
  rw [HB1.out]
  have BB := Lib.hid (fun o o' => (hb'.alloc hb'.size o).alloc (by have := hb'.size; simp; omega) o')
  have hz' := hb'.size
  refine (has_in 65 #[.pointer (some ⟨w'.heap.size + 1, 0, none⟩), .pointer (some ⟨w'.heap.size, 0, none⟩)] eg53 (fun x => amissB al x.id x.ix) A _ c xs _ lo hi (HX.out.keep (Kept.of_below (BB.out _ _) hhi)) (by simp; omega) hl ?_).mono ?_
  · intro W x A1 n1 c1 hx hb hs
    have h1 := hb.cell (p := ⟨w'.heap.size + 1, 0, none⟩) (by simp)
    have h2 := hb.cell (p := ⟨w'.heap.size, 0, none⟩) (by simp; omega)
    have h3 := hb.cell (p := ⟨w'.heap.size, 1, none⟩) (by simp; omega)
    exact amiss_any x.id x.ix x.sq A1 n1 c1 al _ _ W (h1.trans (by simp)) (h2.trans (by simp)) (h3.trans (by simp))
  rintro e w2 ⟨rfl, hb3⟩
  go_wp2_with fail
  go_ret
  exact ⟨ret_bool E.out.symm, below_next (BB.out _ _) (by simp; omega) hb3⟩

theorem checkD_count {t : TxD} (h : countsB t = false) : checkD t = 6 := by simp [checkD, h]
theorem checkD_long {t : TxD} (h : countsB t = true) (h2 : longB t = true) : checkD t = 20 := by simp [checkD, h, h2]
theorem checkD_form {t : TxD} (h : countsB t = true) (h2 : longB t = false) (h3 : pointsB t.ins = false) : checkD t = 4 := by simp [checkD, h, h2, h3]
theorem checkD_twice {t : TxD} (h : countsB t = true) (h2 : longB t = false) (h3 : pointsB t.ins = true) (h4 : twiceB t.ins = true) : checkD t = 7 := by simp [checkD, h, h2, h3, h4]
theorem checkD_range {t : TxD} (h : countsB t = true) (h2 : longB t = false) (h3 : pointsB t.ins = true) (h4 : twiceB t.ins = false) : checkD t = (totalD t.outs).2 := by simp [checkD, h, h2, h3, h4]

/-- A transaction in a box. -/
def Boxed (w : World) (b : Nat) (v0 v1 v2 v3 : Value) : Prop := w.cell? ⟨b, 0, none⟩ = some v0 ∧ w.cell? ⟨b, 1, none⟩ = some v1 ∧ w.cell? ⟨b, 2, none⟩ = some v2 ∧ w.cell? ⟨b, 3, none⟩ = some v3
theorem Boxed.new (w : World) (v0 v1 v2 v3 : Value) (t : TypeId) : Boxed (w.alloc (.cells #[v0, v1, v2, v3] t)) w.heap.size v0 v1 v2 v3 := by
  refine ⟨?_, ?_, ?_, ?_⟩ <;> simp
theorem Boxed.below {w w' : World} {b : Nat} {v0 v1 v2 v3 : Value} (h : Boxed w b v0 v1 v2 v3) (hlt : b < w.heap.size) (hb : Below w.heap.size w w') : Boxed w' b v0 v1 v2 v3 :=
  ⟨(hb.cell (p := ⟨b, 0, none⟩) hlt).trans h.1, (hb.cell (p := ⟨b, 1, none⟩) hlt).trans h.2.1, (hb.cell (p := ⟨b, 2, none⟩) hlt).trans h.2.2.1, (hb.cell (p := ⟨b, 3, none⟩) hlt).trans h.2.2.2⟩

set_option maxHeartbeats 1000000 in
theorem check_any (t : TxD) (vi vo : Value) (w : World) (lo hi : Nat) (ht : TxAt w lo hi vi vo t) (hhi : hi ≤ w.heap.size) (hok : t.Ok) :
    Calls Tryz.prog 19 #[.agg #[.int .u32 t.ver, vi, vo, .int .u32 t.lock]] w fun e w' => e = .returned (.int .i64 (checkD t)) ∧ Below w.heap.size w w' := by
  obtain ⟨tv, ti, to, tl⟩ := t
  obtain ⟨A1, m1, rfl⟩ := ht.1.form
  obtain ⟨A2, m2, rfl⟩ := ht.2.form
  have HT := Lib.hid ht
  have HO := Lib.hid hok
  simp only
  clear ht hok
  have B0 := Lib.hid (fun o => (Below.refl w.heap.size w).alloc (Nat.le_refl _) o)
  have X0 := Lib.hid (Boxed.new w (.int .u32 tv) (.slice A1 ti.length m1) (.slice A2 to.length m2) (.int .u32 tl) 34)
  have E1 := Lib.hid (checkD_count (t := ⟨tv, ti, to, tl⟩))
  have E2 := Lib.hid (checkD_long (t := ⟨tv, ti, to, tl⟩))
  have E3 := Lib.hid (checkD_form (t := ⟨tv, ti, to, tl⟩))
  have E4 := Lib.hid (checkD_twice (t := ⟨tv, ti, to, tl⟩))
  have E5 := Lib.hid (checkD_range (t := ⟨tv, ti, to, tl⟩))
  go_enter Tryz.func19, Tryz.ntmps19
  go_wp2_with fail
  refine (counts_any ⟨tv, ti, to, tl⟩ _ _ _ lo hi (HT.out.keep (Kept.of_below (B0.out _) hhi)) (by simp; omega) HO.out).mono ?_
  rintro e w1 ⟨rfl, hb1⟩
  have X1 := Lib.hid (X0.out.below (by simp) hb1)
  have z1 : w.heap.size + 1 ≤ w1.heap.size := by have := hb1.size; simp at this; exact this
  have K1 := Lib.hid (below_next (B0.out _) (by simp) hb1)
  clear hb1
  obtain ⟨a0, a1, a2, a3⟩ := X1.out
  cases h1 : countsB ⟨tv, ti, to, tl⟩
  · go_wp2_with fail
    go_ret
    exact ⟨ret_int (E1.out h1).symm, K1.out⟩
  go_wp2_with fail
  refine (long_any ⟨tv, ti, to, tl⟩ _ _ _ lo hi (HT.out.keep (Kept.of_below K1.out hhi)) (by omega) HO.out).mono ?_
  rintro e w2 ⟨rfl, hb2⟩
  have X2 := Lib.hid (X1.out.below (by omega) hb2)
  have z2 : w.heap.size + 1 ≤ w2.heap.size := by have := hb2.size; omega
  have K2 := Lib.hid (below_next K1.out (by omega) hb2)
  clear hb2 a0 a1 a2 a3
  obtain ⟨a0, a1, a2, a3⟩ := X2.out
  cases h2 : longB ⟨tv, ti, to, tl⟩
  case true =>
    go_wp2_with fail
    go_ret
    exact ⟨ret_int (E2.out h1 h2).symm, K2.out⟩
  go_wp2_with fail
  refine (points_any A1 _ m1 ti _ lo hi (HT.out.1.keep (Kept.of_below K2.out hhi)) (by omega) HO.out.1).mono ?_
  rintro e w3 ⟨rfl, hb3⟩
  have X3 := Lib.hid (X2.out.below (by omega) hb3)
  have z3 : w.heap.size + 1 ≤ w3.heap.size := by have := hb3.size; omega
  have K3 := Lib.hid (below_next K2.out (by omega) hb3)
  clear hb3 a0 a1 a2 a3
  obtain ⟨a0, a1, a2, a3⟩ := X3.out
  cases h3 : pointsB ti
  · go_wp2_with fail
    go_ret
    exact ⟨ret_int (E3.out h1 h2 h3).symm, K3.out⟩
  go_wp2_with fail
  refine (twice_any A1 _ m1 ti _ lo hi (HT.out.1.keep (Kept.of_below K3.out hhi)) (by omega) HO.out.1 HO.out.2.2.1).mono ?_
  rintro e w4 ⟨rfl, hb4⟩
  have X4 := Lib.hid (X3.out.below (by omega) hb4)
  have z4 : w.heap.size + 1 ≤ w4.heap.size := by have := hb4.size; omega
  have K4 := Lib.hid (below_next K3.out (by omega) hb4)
  clear hb4 a0 a1 a2 a3
  obtain ⟨a0, a1, a2, a3⟩ := X4.out
  cases h4 : twiceB ti
  case true =>
    go_wp2_with fail
    go_ret
    exact ⟨ret_int (E4.out h1 h2 h3 h4).symm, K4.out⟩
  go_wp2_with fail
  refine (total_any ⟨tv, ti, to, tl⟩ _ _ _ lo hi (HT.out.2.keep (Kept.of_below K4.out hhi)) (by omega) HO.out.2.1).mono ?_
  rintro e w5 ⟨rfl, hb5⟩
  go_wp2_with fail
  go_ret
  exact ⟨ret_int (E5.out h1 h2 h3 h4).symm, below_next K4.out (by omega) hb5⟩

end Go.Proofs.YtjclklppnkoehaaGreatDoor
