/-
  The statement DustTx, walked.
-/
import Derived.Test.YtmabfccieoaalaaRfst
import Derived.Test.YtmabfccieoaalaaWake
import Derived.Test.YtmabfccieoaalaaRead
namespace Go.Proofs.Ytmabfccieoaalaa
open Go.RowKit

theorem cut_ok {t : TxD} (h : t.Came) {m : Nat} (hm : m ≤ 512) : (cutTx m t).Ok := by
  obtain ⟨_, _, h3, h4, h5, h6, h7, h8⟩ := h
  refine ⟨by simp [cutTx]; omega, by simp [cutTx]; omega, ?_, ?_, h5, h6, h7, h8⟩
  · intro x hx
    obtain ⟨y, hy, rfl⟩ := List.mem_map.1 hx
    obtain ⟨_, a, b, c, d⟩ := h3 y (List.mem_of_mem_take hy)
    refine ⟨Nat.le_trans (cutS_size 40 y.id) (by omega), a, b, c, d, ?_, ?_⟩
    · simp [cutIn]; omega
    · intro s hs
      obtain ⟨r, _, rfl⟩ := List.mem_map.1 hs
      exact Nat.le_trans (cutS_size 90 r) (by omega)
  · intro x hx
    obtain ⟨y, hy, rfl⟩ := List.mem_map.1 hx
    obtain ⟨a, b⟩ := h4 y (List.mem_of_mem_take hy)
    exact ⟨a, b, Nat.le_trans (cutS_size 50 y.scr) (by omega)⟩
theorem came_ins {t : TxD} (h : t.Came) : t.ins.length ≤ 9223372036854775807 := by have := h.1; unfold maxLen at this; omega
theorem came_outs {t : TxD} (h : t.Came) : t.outs.length ≤ 9223372036854775807 := by have := h.2.1; unfold maxLen at this; omega
theorem came_wit {t : TxD} (h : t.Came) : ∀ x ∈ t.ins, x.wit.length ≤ 9223372036854775807 := fun x hx => by have := (h.2.2.1 x hx).1; unfold maxLen at this; omega

/-- What First answers, told by where the first dust is. -/
theorem fs_split (xs : List OutD) : (NoDust xs xs.length ∧ fsP xs = 0 ∧ fsB xs = false ∧ fsI xs = -1) ∨ ∃ (k : Nat) (x : OutD), k < xs.length ∧ xs[k]? = some x ∧ NoDust xs k ∧ duO x = true ∧ fsP xs = (k : Int) ∧ fsB xs = true ∧ fsI xs = (k : Int) := by
  cases h : xs.findIdx? duO with
  | none =>
    have h2 := List.findIdx?_eq_none_iff.1 h
    have hd : NoDust xs xs.length := fun j y _ hy => h2 y (List.mem_of_getElem? hy)
    exact .inl ⟨hd, (fs_miss hd).2.1, (fs_miss hd).2.2, (fs_miss hd).1⟩
  | some k =>
    obtain ⟨hk, hp, hb⟩ := List.findIdx?_eq_some_iff_getElem.1 h
    have hd : NoDust xs k := fun j y hj hy => by
      obtain ⟨hl, rfl⟩ := List.getElem?_eq_some_iff.1 hy
      simpa using hb j hj
    have hx : xs[k]? = some xs[k] := List.getElem?_eq_getElem hk
    have := fs_hit hd hx hp
    exact .inr ⟨k, xs[k], hk, hx, hd, hp, this.2.1, this.2.2, this.1⟩

set_option maxHeartbeats 4000000 in
set_option maxRecDepth 100000 in
theorem dusttx_law (t : TxD) (vi vo : Value) (w : World) (ht : TxAt w 0 w.heap.size vi vo t) (hc : t.Came) :
    Calls Try.prog 5 #[.agg #[.int .u32 t.ver, vi, vo, .int .u32 t.lock]] w fun e w' => e = .returned (.bool true) ∧ Below w.heap.size w w' := by
  obtain ⟨w0, hw0⟩ : ∃ w0, w0 = w.alloc (.cells #[.int .u32 t.ver, vi, vo, .int .u32 t.lock] 26) := ⟨_, rfl⟩
  have z0 : w0.heap.size = w.heap.size + 1 := by rw [hw0]; simp
  have hb0 : Below w.heap.size w w0 := by rw [hw0]; exact (Below.refl _ _).alloc (Nat.le_refl _) _
  have BX := Lib.hid (show Boxed w0 w.heap.size (.int .u32 t.ver) vi vo (.int .u32 t.lock) from by rw [hw0]; exact Boxed.new _ _ _ _ _ _)
  have CC := Lib.hid (cut_any t 10 vi vo w0 w.heap.size (ht.keep (Kept.of_below hb0 (Nat.le_refl _))) (by omega) (by omega) (came_ins hc) (came_outs hc) (came_wit hc))
  have uok := cut_ok hc (m := 10) (by omega)
  have uv : (cutTx 10 t).ver = t.ver := rfl
  have ul : (cutTx 10 t).lock = t.lock := rfl
  obtain ⟨u, hu⟩ : ∃ u, cutTx 10 t = u := ⟨_, rfl⟩
  rw [hu] at CC uok uv ul
  have B0 := Lib.hid hb0
  have HW0 := Lib.hid hw0
  have UOK := Lib.hid uok
  have hn := uok.2.1
  clear ht hb0 hw0 hu uok hc
  obtain ⟨b0, b1, b2, b3⟩ := BX.out
  go_enter Try.func5, Try.ntmps5
  go_upto_region 1 with (fail)
  rw [show World.alloc w _ = w0 from HW0.out.symm]
  go_wp2_with fail
  refine CC.out.mono ?_
  rintro e w1 ⟨vi', vo', rfl, htx, hb1⟩
  have z1 := hb1.size
  obtain ⟨Ai, ci, rfl⟩ := htx.1.form
  obtain ⟨Ao, co, rfl⟩ := htx.2.form
  obtain ⟨w2, hw2⟩ : ∃ w2, w2 = w1.alloc (.cells #[.int .u32 t.ver, .slice Ai u.ins.length ci, .slice Ao u.outs.length co, .int .u32 t.lock] 26) := ⟨_, rfl⟩
  have z2 : w2.heap.size = w1.heap.size + 1 := by rw [hw2]; simp
  have hb2 : Below w1.heap.size w1 w2 := by rw [hw2]; exact (Below.refl _ _).alloc (Nat.le_refl _) _
  have BU := Lib.hid (show Boxed w2 w1.heap.size (.int .u32 t.ver) (.slice Ai u.ins.length ci) (.slice Ao u.outs.length co) (.int .u32 t.lock) from by rw [hw2]; exact Boxed.new _ _ _ _ _ _)
  have TU := Lib.hid (show TxAt w2 0 w2.heap.size (.slice Ai u.ins.length ci) (.slice Ao u.outs.length co) u from (htx.keep (Kept.of_below hb2 (Nat.le_refl _))).wide (Nat.zero_le _) (by omega))
  have B2 := Lib.hid (B0.out.trans ((below_next hb1 (by omega) hb2).mono (by omega)))
  have HW2 := Lib.hid hw2
  have CF := Lib.hid (first_any u _ _ w2 TU.out UOK.out)
  rw [uv, ul] at CF
  have HS := Lib.hid (fs_split u.outs)
  generalize fsP u.outs = P at CF HS
  generalize fsB u.outs = Q at CF HS
  generalize fsI u.outs = I at HS
  have OK := Lib.hid UOK.out.2.2.2.1
  obtain ⟨xs, hxs⟩ : ∃ xs, u.outs = xs := ⟨_, rfl⟩
  have TO := Lib.hid TU.out.2
  rw [hxs] at hn BU TO OK HS HW2 CF
  clear hb1 hw2 hb2 htx b0 b1 b2 b3 BX CC
  obtain ⟨n, hne⟩ : ∃ n, xs.length = n := ⟨_, rfl⟩
  rw [hne] at hn BU HW2 HS CF
  have HN := Lib.hid hne
  rw [hxs, hne]
  clear hxs hne
  go_upto_region 2 with (fail)
  rw [show World.alloc w1 _ = w2 from HW2.out.symm]
  obtain ⟨c0, c1, c2, c3⟩ := BU.out
  have hlt : w1.heap.size < w2.heap.size := by omega
  go_wp2_with fail
  refine CF.out.mono ?_
  rintro e w3 ⟨rfl, hb3⟩
  have HB3 := Lib.hid hb3
  have z3 := hb3.size
  clear c0 c1 c2 c3
  obtain ⟨c0, c1, c2, c3⟩ := BU.out.below hlt hb3
  have TO3 := Lib.hid ((TO.out.keep (Kept.of_below hb3 (Nat.le_refl _))).wide (Nat.le_refl _) z3)
  have B3 := Lib.hid (B2.out.trans (hb3.mono (by have := B2.out.size; omega)))
  clear hb3 CF
  rcases HS.out with ⟨hd, rfl, rfl, _⟩ | ⟨k0, x0, hk0, hx0, hd, hdx, rfl, rfl, _⟩
  · have HD := Lib.hid hd
    clear hd
    go_wp2_with fail
    go_loopg [39] n (fun gg s wr => ∃ k : Nat, k ≤ n ∧ n - k ≤ gg ∧ s = .int .i64 k ∧ Hid (Below w3.heap.size w3 wr))
    case atStart => exact ⟨0, Nat.zero_le _, by omega, rfl, Lib.hid (Below.refl _ _)⟩
    case round =>
      obtain ⟨k, hk, hg, rfl, HB⟩ := hrel
      by_cases hkn : k < n
      · have l1 : (k : Int) < (n : Int) := by omega
        have l2 : decide (k < n) = true := decide_eq_true hkn
        obtain ⟨x, hx⟩ : ∃ x, xs[k]? = some x := ⟨_, List.getElem?_eq_getElem (by have := HN.out; omega)⟩
        obtain ⟨b, off, rfl, _, hbw, d0, d1⟩ := (TO3.out.keep (Kept.of_below HB.out (Nat.le_refl _))).at hx
        have hbr : b < wr.heap.size := by have := HB.out.size; omega
        have xok := OK.out x (List.mem_of_getElem? hx)
        have hdx : duB x.val x.scr = false := HD.out k x (by omega) hx
        have CD := Lib.hid (fun W => dust_any x.val x.scr W (by have := xok.2.2; unfold maxLen; omega))
        rw [hdx] at CD
        clear hx xok hdx
        go_wp2_with fail
        refine (CD.out _).mono ?_
        rintro e w4 ⟨rfl, hb4⟩
        have B4 := Lib.hid (below_next (HB.out.alloc HB.out.size _) (by have := HB.out.size; simp; omega) hb4)
        clear hb4
        go_wp2_with fail
        go_roundg (n - (k + 1))
        case measure => omega
        case rel => exact ⟨k + 1, by omega, by omega, by go_num, B4⟩
      · obtain rfl : k = n := by omega
        have l1 : ¬ (k : Int) < (k : Int) := by omega
        go_wp2_with fail
        refine (wakes_any _).mono ?_
        rintro e w4 ⟨rfl, hb4⟩
        have B4 := Lib.hid (below_next HB.out HB.out.size hb4)
        clear hb4
        go_wp2_with fail
        go_ret
        exact ⟨rfl, B3.out.trans (B4.out.mono (by have := B3.out.size; omega))⟩
  · have HD := Lib.hid hd
    have HX0 := Lib.hid hx0
    have HDX := Lib.hid hdx
    have j1 : ¬ (n : Int) ≤ (k0 : Int) := by omega
    have j2 : decide (n ≤ k0) = false := decide_eq_false (by omega)
    clear hd hx0 hdx
    go_wp2_with fail
    go_loopg [39] n (fun gg s wr => ∃ k : Nat, k ≤ n ∧ n - k ≤ gg ∧ s = .int .i64 k ∧ Hid (Below w3.heap.size w3 wr))
    case atStart => exact ⟨0, Nat.zero_le _, by omega, rfl, Lib.hid (Below.refl _ _)⟩
    case round =>
      obtain ⟨k, hk, hg, rfl, HB⟩ := hrel
      by_cases hkn : k < n
      · have l1 : (k : Int) < (n : Int) := by omega
        have l2 : decide (k < n) = true := decide_eq_true hkn
        obtain ⟨x, hx⟩ : ∃ x, xs[k]? = some x := ⟨_, List.getElem?_eq_getElem (by have := HN.out; omega)⟩
        obtain ⟨b, off, rfl, _, hbw, d0, d1⟩ := (TO3.out.keep (Kept.of_below HB.out (Nat.le_refl _))).at hx
        have hbr : b < wr.heap.size := by have := HB.out.size; omega
        have xok := OK.out x (List.mem_of_getElem? hx)
        have CD := Lib.hid (fun W => dust_any x.val x.scr W (by have := xok.2.2; unfold maxLen; omega))
        have h1 : duB x.val x.scr = true → ¬ k < k0 := fun h q => by have := HD.out k x q hx; rw [duO, h] at this; cases this
        have h2 : duB x.val x.scr = false → ¬ k = k0 := fun h q => by subst q; rw [HX0.out] at hx; injection hx with hx; subst hx; have := HDX.out; rw [duO, h] at this; cases this
        generalize duB x.val x.scr = d at CD h1 h2
        clear hx xok
        go_wp2_with fail
        refine (CD.out _).mono ?_
        rintro e w4 ⟨rfl, hb4⟩
        have B4 := Lib.hid (below_next (HB.out.alloc HB.out.size _) (by have := HB.out.size; simp; omega) hb4)
        clear hb4
        cases d
        · have h2 := h2 rfl
          have h3 : ¬ (k : Int) = (k0 : Int) := by omega
          clear h1
          go_wp2_with fail
          go_roundg (n - (k + 1))
          case measure => omega
          case rel => exact ⟨k + 1, by omega, by omega, by go_num, B4⟩
        · have h1 := h1 rfl
          have h3 : ¬ (k : Int) < (k0 : Int) := by omega
          have h4 : decide (k < k0) = false := decide_eq_false h1
          clear h2
          go_wp2_with fail
          go_roundg (n - (k + 1))
          case measure => omega
          case rel => exact ⟨k + 1, by omega, by omega, by go_num, B4⟩
      · obtain rfl : k = n := by omega
        have l1 : ¬ (k : Int) < (k : Int) := by omega
        go_wp2_with fail
        refine (wakes_any _).mono ?_
        rintro e w4 ⟨rfl, hb4⟩
        have B4 := Lib.hid (below_next HB.out HB.out.size hb4)
        clear hb4
        go_wp2_with fail
        go_ret
        exact ⟨rfl, B3.out.trans (B4.out.mono (by have := B3.out.size; omega))⟩

end Go.Proofs.Ytmabfccieoaalaa
