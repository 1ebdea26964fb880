/-
  Layer 9's First: the program's and the document's.
-/
import Derived.Test.YtmabfccieoaalaaDst
import Derived.Test.YtmabfccieoaalaaCut
namespace Go.Proofs.Ytmabfccieoaalaa
open Go.RowKit

/-- Is an output dust? -/
def duO (x : OutD) : Bool := duB x.val x.scr
/-- The place of the first output that is dust, or -1. -/
def fsI (xs : List OutD) : Int := idxOf duO xs
/-- What First answers. -/
def fsP (xs : List OutD) : Int := if fsI xs < 0 then 0 else fsI xs
def fsB (xs : List OutD) : Bool := !decide (fsI xs < 0)

/-- None ahead of k is dust. -/
def NoDust (xs : List OutD) (k : Nat) : Prop := ∀ (j : Nat) (y : OutD), j < k → xs[j]? = some y → duO y = false
theorem NoDust.step {xs : List OutD} {k : Nat} {x : OutD} (h : NoDust xs k) (hx : xs[k]? = some x) (e : duB x.val x.scr = false) : NoDust xs (k + 1) := by
  intro j y hj hy
  by_cases hq : j < k
  · exact h j y hq hy
  · obtain rfl : j = k := by omega
    rw [hx] at hy
    injection hy with hy
    subst hy
    exact e
theorem fs_hit {xs : List OutD} {k : Nat} {x : OutD} (h : NoDust xs k) (hx : xs[k]? = some x) (e : duB x.val x.scr = true) : fsI xs = (k : Int) ∧ fsP xs = (k : Int) ∧ fsB xs = true := by
  have h1 : fsI xs = (k : Int) := idxOf_hit hx e h
  refine ⟨h1, ?_, ?_⟩
  · unfold fsP; rw [h1, if_neg (by omega)]
  · unfold fsB; rw [h1, decide_eq_false (by omega)]; rfl
theorem fs_miss {xs : List OutD} (h : NoDust xs xs.length) : fsI xs = -1 ∧ fsP xs = 0 ∧ fsB xs = false := by
  have h1 : fsI xs = -1 := idxOf_miss (fun j y hy => h j y (List.getElem?_eq_some_iff.1 hy).1 hy)
  refine ⟨h1, ?_, ?_⟩
  · unfold fsP; rw [h1]; rfl
  · unfold fsB; rw [h1]; rfl
theorem fsP_bd {xs : List OutD} : fsI xs < xs.length ∧ -1 ≤ fsI xs := by
  unfold fsI idxOf
  cases e : xs.findIdx? duO with
  | none => simp; omega
  | some k =>
    have := (List.findIdx?_eq_some_iff_getElem.1 e).1
    simp; omega

set_option maxHeartbeats 4000000 in
set_option maxRecDepth 100000 in
theorem first_any (t : TxD) (vi vo : Value) (w : World) (ht : TxAt w 0 w.heap.size vi vo t) (hok : t.Ok) :
    Calls Try.prog 12 #[.agg #[.int .u32 t.ver, vi, vo, .int .u32 t.lock]] w fun e w' => e = .returned (.tuple #[.int .i64 (fsP t.outs), .bool (fsB t.outs)]) ∧ Below w.heap.size w w' := by
  obtain ⟨w0, hw0⟩ : ∃ w0, w0 = w.alloc (.cells #[.int .u32 t.ver, vi, vo, .int .u32 t.lock] 26) := ⟨_, rfl⟩
  have z0 : w0.heap.size = w.heap.size + 1 := by rw [hw0]; simp
  have hb0 : Below w.heap.size w w0 := by rw [hw0]; exact (Below.refl _ _).alloc (Nat.le_refl _) _
  have BX := Lib.hid (show Boxed w0 w.heap.size (.int .u32 t.ver) vi vo (.int .u32 t.lock) from by rw [hw0]; exact Boxed.new _ _ _ _ _ _)
  have HT := Lib.hid (ht.keep (Kept.of_below hb0 (Nat.le_refl _))).2
  have B0 := Lib.hid hb0
  have HW0 := Lib.hid hw0
  obtain ⟨Ao, co, rfl⟩ := ht.2.form
  have hlt : w.heap.size < w0.heap.size := by omega
  have hn := hok.2.1
  have OK := Lib.hid hok.2.2.2.1
  clear ht hb0 hw0 hok
  obtain ⟨b0, b1, b2, b3⟩ := BX.out
  have FH := Lib.hid (fun k x (h : NoDust t.outs k) (hx : t.outs[k]? = some x) (e : duB x.val x.scr = true) => (fs_hit h hx e).2)
  have FM := Lib.hid (fun (h : NoDust t.outs t.outs.length) => (fs_miss h).2)
  generalize fsP t.outs = P at FH FM
  generalize fsB t.outs = Q at FH FM
  obtain ⟨xs, hxs⟩ : ∃ xs, t.outs = xs := ⟨_, rfl⟩
  rw [hxs] at hn b2 HT OK FH FM
  clear hxs
  obtain ⟨n, hne⟩ : ∃ n, xs.length = n := ⟨_, rfl⟩
  rw [hne] at hn b2
  have HN := Lib.hid hne
  clear hne
  go_enter Try.func12, Try.ntmps12
  go_upto_region 1 with (fail)
  rw [show World.alloc w _ = w0 from HW0.out.symm]
  go_wp2_with fail
  go_loopg [9] n (fun gg s wr => ∃ k : Nat, k ≤ n ∧ n - k ≤ gg ∧ s = .int .i64 k ∧ Hid (NoDust xs k) ∧ Hid (Below w0.heap.size w0 wr))
  case atStart => exact ⟨0, Nat.zero_le _, by omega, rfl, Lib.hid (fun j y hj => absurd hj (Nat.not_lt_zero _)), Lib.hid (Below.refl _ _)⟩
  case round =>
    obtain ⟨k, hk, hg, rfl, HD, HB⟩ := hrel
    by_cases hkn : k < n
    · have l1 : (k : Int) < (n : Int) := by omega
      have l2 : decide (k < n) = true := decide_eq_true hkn
      obtain ⟨x, hx⟩ : ∃ x, xs[k]? = some x := ⟨_, List.getElem?_eq_getElem (by have := HN.out; omega)⟩
      obtain ⟨b, off, rfl, _, hbw, c0, c1⟩ := (HT.out.keep (Kept.of_below HB.out (by omega))).at hx
      have hbr : b < wr.heap.size := by have := HB.out.size; omega
      have xok := OK.out x (List.mem_of_getElem? hx)
      have HX := Lib.hid hx
      have CD := Lib.hid (fun W => dust_any x.val x.scr W (by have := xok.2.2; unfold maxLen; omega))
      clear hx xok
      obtain ⟨d, hd⟩ : ∃ d, duB x.val x.scr = d := ⟨_, rfl⟩
      rw [hd] at CD
      have HDD := Lib.hid hd
      clear hd
      go_wp2_with fail
      refine (CD.out _).mono ?_
      rintro e w1 ⟨rfl, hb1⟩
      have B1 := Lib.hid (below_next (HB.out.alloc HB.out.size _) (by have := HB.out.size; simp; omega) hb1)
      clear hb1
      cases d
      · go_wp2_with fail
        go_roundg (n - (k + 1))
        case measure => omega
        case rel => exact ⟨k + 1, by omega, by omega, by go_num, Lib.hid (HD.out.step HX.out HDD.out), B1⟩
      · obtain ⟨e1, e2⟩ := FH.out k x HD.out HX.out HDD.out
        subst e1 e2
        go_wp2_with fail
        go_ret2
        exact ⟨rfl, B0.out.trans (B1.out.mono (by omega))⟩
    · obtain rfl : k = n := by omega
      have l1 : ¬ (k : Int) < (k : Int) := by omega
      have hf := FM.out (by rw [HN.out]; exact HD.out)
      obtain ⟨e1, e2⟩ := hf
      subst e1 e2
      go_wp2_with fail
      go_ret2
      exact ⟨rfl, B0.out.trans (HB.out.mono (by omega))⟩

end Go.Proofs.Ytmabfccieoaalaa
