/-
  The document's First of layer 9.
-/
import Derived.Test.YtmabfccieoaalaaFst
namespace Go.Proofs.Ytmabfccieoaalaa
open Go.RowKit

theorem du_err {v : Int} {s : ByteArray} (h : szE s = 20) : duB v s = false := by
  unfold szE at h
  unfold duB
  split at h
  · rw [decide_eq_false (by omega)]; rfl
  · omega
theorem du_ok {v : Int} {s : ByteArray} (h : szE s = 0) : duB v s = decide (v < lsN s) := by
  unfold szE at h
  unfold duB
  split at h
  · omega
  · rw [decide_eq_true (by omega)]; rfl
theorem sz_two (s : ByteArray) : szE s = 0 ∨ szE s = 20 := by
  unfold szE
  split
  · exact .inr rfl
  · exact .inl rfl

set_option maxHeartbeats 4000000 in
set_option maxRecDepth 100000 in
theorem rfirst_any (t : TxD) (vi vo : Value) (w : World) (ht : TxAt w 0 w.heap.size vi vo t) (hok : t.Ok) :
    Calls Try.prog 13 #[.agg #[.int .u32 t.ver, vi, vo, .int .u32 t.lock]] w fun e w' => e = .returned (.int .i64 (fsI t.outs)) ∧ Below w.heap.size w w' := by
  obtain ⟨w0, hw0⟩ : ∃ w0, w0 = w.alloc (.cells #[.int .u32 t.ver, vi, vo, .int .u32 t.lock] 26) := ⟨_, rfl⟩
  have z0 : w0.heap.size = w.heap.size + 1 := by rw [hw0]; simp
  have hb0 : Below w.heap.size w w0 := by rw [hw0]; exact (Below.refl _ _).alloc (Nat.le_refl _) _
  have BX := Lib.hid (show Boxed w0 w.heap.size (.int .u32 t.ver) vi vo (.int .u32 t.lock) from by rw [hw0]; exact Boxed.new _ _ _ _ _ _)
  have HT := Lib.hid (ht.keep (Kept.of_below hb0 (Nat.le_refl _))).2
  have B0 := Lib.hid hb0
  have HW0 := Lib.hid hw0
  obtain ⟨Ao, co, rfl⟩ := ht.2.form
  have hlt : w.heap.size < w0.heap.size := by omega
  have hn := hok.2.1
  have OK := Lib.hid hok.2.2.2.1
  clear ht hb0 hw0 hok
  have FH := Lib.hid (fun k x (h : NoDust t.outs k) (hx : t.outs[k]? = some x) (e : duB x.val x.scr = true) => (fs_hit h hx e).1)
  have FM := Lib.hid (fun (h : NoDust t.outs t.outs.length) => (fs_miss h).1)
  generalize fsI t.outs = P at FH FM
  obtain ⟨xs, hxs⟩ : ∃ xs, t.outs = xs := ⟨_, rfl⟩
  rw [hxs] at hn BX HT OK FH FM
  clear hxs
  obtain ⟨n, hne⟩ : ∃ n, xs.length = n := ⟨_, rfl⟩
  rw [hne] at hn BX
  have HN := Lib.hid hne
  clear hne
  go_enter Try.func13, Try.ntmps13
  go_upto_region 1 with (fail)
  rw [show World.alloc w _ = w0 from HW0.out.symm]
  go_wp2_with fail
  go_loopg [3] n (fun gg s wr => ∃ k : Nat, k ≤ n ∧ n - k ≤ gg ∧ s = .int .i64 k ∧ Hid (NoDust xs k) ∧ Hid (Below w0.heap.size w0 wr))
  case atStart => exact ⟨0, Nat.zero_le _, by omega, rfl, Lib.hid (fun j y hj => absurd hj (Nat.not_lt_zero _)), Lib.hid (Below.refl _ _)⟩
  case round =>
    obtain ⟨k, hk, hg, rfl, HD, HB⟩ := hrel
    obtain ⟨b0, b1, b2, b3⟩ := BX.out.below hlt HB.out
    by_cases hkn : k < n
    · have l1 : (k : Int) < (n : Int) := by omega
      have l2 : decide (k < n) = true := decide_eq_true hkn
      obtain ⟨x, hx⟩ : ∃ x, xs[k]? = some x := ⟨_, List.getElem?_eq_getElem (by have := HN.out; omega)⟩
      have HC := Lib.hid (fun W (hW : Below w0.heap.size w0 W) => (HT.out.keep (Kept.of_below hW (by omega))).at hx)
      obtain ⟨b, off, rfl, _, hbw, c0, c1⟩ := HC.out wr HB.out
      have xok := OK.out x (List.mem_of_getElem? hx)
      have HX := Lib.hid hx
      have CD := Lib.hid (fun W => rleast_any x.val x.scr W (by have := xok.2.2; unfold maxLen; omega))
      have hb4 : b < w0.heap.size := by omega
      clear hx xok HC
      have HDU := Lib.hid (du_err (v := x.val) (s := x.scr))
      have HDO := Lib.hid (du_ok (v := x.val) (s := x.scr))
      obtain ⟨l, hl⟩ : ∃ l, lsN x.scr = l := ⟨_, rfl⟩
      rw [hl] at CD HDO
      clear hl
      rcases sz_two x.scr with he | he
      · rw [he] at CD
        have hd := HDO.out he
        clear he HDU HDO
        go_wp2_with fail
        refine (CD.out _).mono ?_
        rintro e w1 ⟨rfl, hb1⟩
        have B1 := Lib.hid (below_next HB.out HB.out.size hb1)
        rw [← hb1.cell (p := ⟨w.heap.size, 2, none⟩) (show w.heap.size < wr.heap.size by have := HB.out.size; omega)] at b2
        rw [← hb1.cell (p := ⟨b, off + k * 2, none⟩) (show b < wr.heap.size by have := HB.out.size; omega)] at c0
        clear hb1 b0 b1 b3 c1
        by_cases hv : x.val < l
        · have hdv : decide (x.val < l) = true := decide_eq_true hv
          rw [hdv] at hd
          have E := Lib.hid (FH.out k x HD.out HX.out hd)
          clear hd
          go_wp2_with fail
          go_ret
          exact ⟨ret_int E.out.symm, B0.out.trans (B1.out.mono (by omega))⟩
        · have hdv : decide (x.val < l) = false := decide_eq_false hv
          rw [hdv] at hd
          have HDD := Lib.hid hd
          clear hd
          go_wp2_with fail
          go_roundg (n - (k + 1))
          case measure => omega
          case rel => exact ⟨k + 1, by omega, by omega, by go_num, Lib.hid (HD.out.step HX.out HDD.out), B1⟩
      · rw [he] at CD
        have hd := HDU.out he
        have HDD := Lib.hid hd
        clear he HDU HDO hd
        go_wp2_with fail
        refine (CD.out _).mono ?_
        rintro e w1 ⟨rfl, hb1⟩
        have B1 := Lib.hid (below_next HB.out HB.out.size hb1)
        clear hb1 b0 b1 b2 b3 c0 c1
        go_wp2_with fail
        go_roundg (n - (k + 1))
        case measure => omega
        case rel => exact ⟨k + 1, by omega, by omega, by go_num, Lib.hid (HD.out.step HX.out HDD.out), B1⟩
    · obtain rfl : k = n := by omega
      have l1 : ¬ (k : Int) < (k : Int) := by omega
      have E := Lib.hid (FM.out (by rw [HN.out]; exact HD.out))
      go_wp2_with fail
      go_ret
      exact ⟨ret_int E.out.symm, B0.out.trans (HB.out.mono (by omega))⟩

end Go.Proofs.Ytmabfccieoaalaa
