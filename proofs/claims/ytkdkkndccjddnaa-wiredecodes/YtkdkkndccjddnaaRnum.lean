/-
  The document's reading: a number.
  The document's reading: a count.
  The document's reading: a text.
-/
import Derived.Test.YtkdkkndccjddnaaRdn
import Derived.Test.YtkdkkndccjddnaaVivget
import Derived.BigRegion

namespace Go.Proofs.Ytkdkkndccjddnaa
open Go.RowKit

/-- What a step of the document's reading gives. -/
def DcGives (w : World) (v : Value) (z : St) (x : Ending) (w' : World) : Prop := x = .returned (.tuple #[.agg #[.int .i64 z.a, .int .i64 z.e], v]) ∧ Below w.heap.size w w'

theorem numE_old {s : ByteArray} {a e k lo hi out : Int} (he : ¬ e = 0) : numE s a e k lo hi out = e := by
  unfold numE spanE
  rw [refD_old he, ite_self, refD_old he, ite_self]
theorem numE_short {s : ByteArray} {a k hi out : Int} (h : Vi.okB s a k = false) (hh : 0 ≤ hi) : numE s a 0 k 0 hi out = 5 := by
  unfold numE spanE
  rw [Vi.getN_no h, h, if_neg (by omega)]
  rfl
theorem numE_far {s : ByteArray} {a k hi out : Int} (h : Vi.okB s a k = true) (hh : hi < Vi.getN s a k) : numE s a 0 k 0 hi out = out := by
  unfold numE spanE
  rw [h, if_pos (Or.inr hh)]
  rfl
theorem numE_good {s : ByteArray} {a k hi out : Int} (h : Vi.okB s a k = true) (h0 : 0 ≤ Vi.getN s a k) (hh : ¬ hi < Vi.getN s a k) : numE s a 0 k 0 hi out = 0 := by
  unfold numE spanE
  rw [h, if_neg (by omega)]
  rfl

set_option maxHeartbeats 2000000 in
set_option maxRecDepth 100000 in
theorem rnumber_st (s : ByteArray) (z : St) (k : Nat) (most out : Int) (w : World) (hs : s.size ≤ 140737488355328) (hz : z.a ≤ s.size) (hk : k ≤ 8) (ho : ¬ out = 0) (hm : 0 ≤ most) (hn : 0 ≤ Vi.getN s z.a k) :
    Calls Try.prog 31 #[.string s, .agg #[.int .i64 z.a, .int .i64 z.e], .int .i64 k, .int .u64 most, .int .i64 out] w (DcGives w (.int .u64 (numV s k 0 most out z)) (numSt s k 0 most out z)) := by
  obtain ⟨a, e⟩ := z
  have hz' : a ≤ s.size := hz
  have hms : s.size ≤ maxLen := by unfold maxLen; omega
  have va : IntKind.i64.wrap ((a : Int) + (k : Int)) = (a : Int) + (k : Int) := IntWalk.i64_in _ (by omega)
  have B0 := Lib.hid (fun o p => ((Below.refl w.heap.size w).alloc (Nat.le_refl _) o).alloc (o := p) (by simp))
  show Calls Try.prog 31 #[.string s, .agg #[.int .i64 a, .int .i64 e], .int .i64 k, .int .u64 most, .int .i64 out] w (DcGives w (.int .u64 (numV s k 0 most out ⟨a, e⟩)) (numSt s k 0 most out ⟨a, e⟩))
  by_cases he : e = 0
  · subst he
    obtain ⟨n, hn'⟩ : ∃ n, Vi.getN s a k = n := ⟨_, rfl⟩
    obtain ⟨o, ho'⟩ : ∃ o, Vi.okB s a k = o := ⟨_, rfl⟩
    have C59 := Lib.hid (fun W : World => (Vi.rget_any s a k W hms).mono fun x w' (hx : Vi.GetEnd s a k W x w') => (show x = .returned (.tuple #[.int .u64 n, .bool o]) ∧ W = w' from by obtain ⟨h1, h2⟩ := hx; rw [hn', ho'] at h1; exact ⟨h1, h2⟩))
    cases o
    · have E := Lib.hid (show numV s k 0 most out ⟨a, 0⟩ = 0 ∧ numSt s k 0 most out ⟨a, 0⟩ = ⟨a, 5⟩ from by
        unfold numV numSt
        rw [numE_short ho' hm, okN_no (by omega), if_neg (by omega)]
        exact ⟨rfl, rfl⟩)
      rw [E.out.1, E.out.2]
      clear hn ho' hn'
      go_enter Try.func31, Try.ntmps31
      go_wp2_with fail
      refine (C59.out _).mono ?_
      rintro x w' ⟨rfl, rfl⟩
      go_wp2_with fail
      refine bodyPost_ret (v := .tuple #[.agg #[.int .i64 a, .int .i64 5], .int .u64 0]) (by simp [results, Try.results31, go_sem]) rfl ?_
      exact ⟨rfl, B0.out _ _⟩
    · rw [hn'] at hn
      by_cases hf : most < n
      · have E := Lib.hid (show numV s k 0 most out ⟨a, 0⟩ = 0 ∧ numSt s k 0 most out ⟨a, 0⟩ = ⟨a, out⟩ from by
          unfold numV numSt
          rw [numE_far ho' (by rw [hn']; exact hf), okN_no ho, if_neg ho]
          exact ⟨rfl, rfl⟩)
        rw [E.out.1, E.out.2]
        clear hn ho' hn'
        go_enter Try.func31, Try.ntmps31
        go_wp2_with fail
        refine (C59.out _).mono ?_
        rintro x w' ⟨rfl, rfl⟩
        go_wp2_with fail
        refine bodyPost_ret (v := .tuple #[.agg #[.int .i64 a, .int .i64 out], .int .u64 0]) (by simp [results, Try.results31, go_sem]) rfl ?_
        exact ⟨rfl, B0.out _ _⟩
      · have E := Lib.hid (show numV s k 0 most out ⟨a, 0⟩ = n ∧ numSt s k 0 most out ⟨a, 0⟩ = ⟨a + k, 0⟩ from by
          unfold numV numSt
          rw [numE_good ho' (by rw [hn']; exact hn) (by rw [hn']; exact hf), okN_yes rfl, if_pos rfl]
          exact ⟨hn', rfl⟩)
        rw [E.out.1, E.out.2]
        clear hn ho' hn'
        go_enter Try.func31, Try.ntmps31
        go_wp2_with fail
        refine (C59.out _).mono ?_
        rintro x w' ⟨rfl, rfl⟩
        go_wp2_with fail
        refine bodyPost_ret (v := .tuple #[.agg #[.int .i64 ((a : Int) + (k : Int)), .int .i64 0], .int .u64 n]) (by simp [results, Try.results31, go_sem]) rfl ?_
        exact ⟨rfl, B0.out _ _⟩
  · have E := Lib.hid (show numV s k 0 most out ⟨a, e⟩ = 0 ∧ numSt s k 0 most out ⟨a, e⟩ = ⟨a, e⟩ from by
      unfold numV numSt
      rw [numE_old he, okN_no he, if_neg he]
      exact ⟨rfl, rfl⟩)
    rw [E.out.1, E.out.2]
    have he1 : (e != 0) = true := by simpa using he
    clear he
    go_enter Try.func31, Try.ntmps31
    go_wp2_with fail
    refine bodyPost_ret (v := .tuple #[.agg #[.int .i64 a, .int .i64 e], .int .u64 0]) (by simp [results, Try.results31, go_sem]) rfl ?_
    exact ⟨rfl, B0.out _ _⟩

end Go.Proofs.Ytkdkkndccjddnaa

namespace Go.Proofs.Ytkdkkndccjddnaa
open Go.RowKit

/-- A block of two cells that may be written. -/
def Two2 (W : World) (b : Nat) (u v : Value) : Prop := W.cell? ⟨b, 0, none⟩ = some u ∧ W.cell? ⟨b, 1, none⟩ = some v ∧ ∀ o, W.frozen? ⟨b, o, none⟩ = false
theorem Two2.new (w : World) (u v : Value) (t : TypeId) : Two2 (w.alloc (.cells #[u, v] t)) w.heap.size u v := ⟨by simp, by simp, fun o => by simp⟩
theorem Two2.keep {w w' : World} {b : Nat} {u v : Value} (h : Two2 w b u v) (hk : w'.heap[b]? = w.heap[b]?) : Two2 w' b u v :=
  ⟨(World.cell?_of_block (w := w) (a := ⟨b, 0, none⟩) hk).trans h.1, (World.cell?_of_block (w := w) (a := ⟨b, 1, none⟩) hk).trans h.2.1, fun o => (World.frozen?_of_block (w := w) (a := ⟨b, o, none⟩) hk).trans (h.2.2 o)⟩

theorem cntE_old {s : ByteArray} {a e lo hi out : Int} (he : ¬ e = 0) : cntE s a e lo hi out = e := by
  unfold cntE spanE
  rw [refD_old he, refD_old he, ite_self]
theorem cntE_bad {s : ByteArray} {a lo hi out : Int} (h : ¬ Vi.gotE s a = 0) : cntE s a 0 lo hi out = Vi.gotE s a := by
  unfold cntE spanE
  rw [show refD 0 (Vi.gotE s a) = Vi.gotE s a from if_pos rfl, refD_old h, ite_self]
theorem cntE_far {s : ByteArray} {a lo hi out : Int} (h : Vi.gotE s a = 0) (hh : Vi.gotN s a < lo ∨ hi < Vi.gotN s a) : cntE s a 0 lo hi out = out := by
  unfold cntE spanE
  rw [if_pos hh, h]
  rfl
theorem cntE_good {s : ByteArray} {a lo hi out : Int} (h : Vi.gotE s a = 0) (hh : ¬ (Vi.gotN s a < lo ∨ hi < Vi.gotN s a)) : cntE s a 0 lo hi out = 0 := by
  unfold cntE spanE
  rw [if_neg hh, h]
  rfl

set_option maxHeartbeats 4000000 in
set_option maxRecDepth 100000 in
theorem rcount_st (s : ByteArray) (z : St) (lo hi out : Int) (w : World) (hs : s.size ≤ 140737488355328) (hz : z.a ≤ s.size) (ho : ¬ out = 0) (hl : 0 ≤ lo) (hm : 0 ≤ hi ∧ hi ≤ 1000000) :
    Calls Try.prog 34 #[.string s, .agg #[.int .i64 z.a, .int .i64 z.e], .int .u64 lo, .int .u64 hi, .int .i64 out] w (DcGives w (.int .i64 (cntV s lo hi out z)) (cntSt s lo hi out z)) := by
  obtain ⟨a, e⟩ := z
  have hz' : a ≤ s.size := hz
  have B0 := Lib.hid (fun o p => ((Below.refl w.heap.size w).alloc (Nat.le_refl _) o).alloc (o := p) (by simp))
  show Calls Try.prog 34 #[.string s, .agg #[.int .i64 a, .int .i64 e], .int .u64 lo, .int .u64 hi, .int .i64 out] w (DcGives w (.int .i64 (cntV s lo hi out ⟨a, e⟩)) (cntSt s lo hi out ⟨a, e⟩))
  by_cases he : e = 0
  · subst he
    obtain ⟨W, hW⟩ : ∃ W, W = (w.alloc (.cells #[.int .i64 a, .int .i64 0] 69)).alloc (.cells #[.int .i64 0, .int .i64 0] 69) := ⟨_, rfl⟩
    have hws : W.heap.size = w.heap.size + 2 := by rw [hW]; simp
    have BW := Lib.hid (show Below w.heap.size w W from by rw [hW]; exact B0.out _ _)
    have T1 : Two2 W w.heap.size (.int .i64 a) (.int .i64 0) := by rw [hW]; exact (Two2.new w _ _ 69).keep (Below.heap_alloc _ _ _ (by simp))
    have T2 : Two2 W (w.heap.size + 1) (.int .i64 0) (.int .i64 0) := by
      have q := Two2.new (w.alloc (.cells #[.int .i64 a, .int .i64 0] 69)) (.int .i64 0) (.int .i64 0) 69
      rw [World.size_alloc] at q
      rw [hW]
      exact q
    have HW := Lib.hid hW
    have HT1 := Lib.hid T1
    have HT2 := Lib.hid T2
    obtain ⟨n, hn⟩ : ∃ n, Vi.gotN s a = n := ⟨_, rfl⟩
    obtain ⟨t, ht⟩ : ∃ t, Vi.gotT s a = t := ⟨_, rfl⟩
    obtain ⟨f, hf⟩ : ∃ f, Vi.gotE s a = f := ⟨_, rfl⟩
    have C60 := Lib.hid ((Vi.rvget_any s a W (by omega)).mono fun x w' (hx : Vi.GotEnd s a W x w') => (show x = .returned (.tuple #[.int .u64 n, .int .i64 t, .int .i64 f]) ∧ Below W.heap.size W w' from by obtain ⟨h1, h2⟩ := hx; rw [hn, ht, hf] at h1; exact ⟨h1, h2⟩))
    clear hW T1 T2
    by_cases hf0 : f = 0
    · by_cases hr : n < lo ∨ hi < n
      · have E := Lib.hid (show cntV s lo hi out ⟨a, 0⟩ = 0 ∧ cntSt s lo hi out ⟨a, 0⟩ = ⟨a, out⟩ from by
          unfold cntV cntSt
          rw [cntE_far (by rw [hf]; exact hf0) (by rw [hn]; exact hr), okN_no ho, if_neg ho]
          exact ⟨rfl, rfl⟩)
        rw [E.out.1, E.out.2]
        have hf1 : (f != 0) = false := by simpa using hf0
        clear hn ht hf hf0
        rcases (show n < lo ∨ (¬ n < lo ∧ hi < n) from by omega) with k1 | ⟨k1, k2⟩
        all_goals
          clear hr
          go_enter Try.func34, Try.ntmps34
          go_upto_region 1 with (fail)
          rw [show World.alloc (World.alloc w _) _ = W from HW.out.symm]
          obtain ⟨a0, a1, fa⟩ := HT1.out
          have fa1 := fa 1
          go_wp2_with fail
          refine C60.out.mono ?_
          rintro x w' ⟨rfl, hb⟩
          obtain ⟨d0, d1, fd⟩ := HT1.out.keep (hb.block w.heap.size (by omega))
          obtain ⟨r0, r1, fr⟩ := HT2.out.keep (hb.block (w.heap.size + 1) (by omega))
          have g1 := fd 1
          have g2 := fr 0
          have g3 := fr 1
          have BB := Lib.hid (below_next BW.out (by omega) hb)
          clear hb
          go_wp2_with fail
          refine bodyPost_ret (v := .tuple #[.agg #[.int .i64 a, .int .i64 out], .int .i64 0]) (by simp [results, Try.results34, go_sem, r0, r1]) rfl ?_
          exact ⟨rfl, ((BB.out.setCell (by show w.heap.size ≤ w.heap.size; omega) _).setCell (by show w.heap.size ≤ w.heap.size + 1; omega) _).setCell (by show w.heap.size ≤ w.heap.size + 1; omega) _⟩
      · have hgt := gotT_le hz' (by rw [hf]; exact hf0)
        rw [ht] at hgt
        have E := Lib.hid (show cntV s lo hi out ⟨a, 0⟩ = n ∧ cntSt s lo hi out ⟨a, 0⟩ = ⟨t.toNat, 0⟩ from by
          unfold cntV cntSt
          rw [cntE_good (by rw [hf]; exact hf0) (by rw [hn]; exact hr), okN_yes rfl, if_pos rfl]
          exact ⟨hn, by rw [ht]⟩)
        rw [E.out.1, E.out.2]
        have hf1 : (f != 0) = false := by simpa using hf0
        have k1 : ¬ n < lo := by omega
        have k2 : ¬ hi < n := by omega
        have vn : IntKind.i64.wrap n = n := IntWalk.i64_in _ (by omega)
        clear hn ht hf hf0 hr
        go_enter Try.func34, Try.ntmps34
        go_upto_region 1 with (fail)
        rw [show World.alloc (World.alloc w _) _ = W from HW.out.symm]
        obtain ⟨a0, a1, fa⟩ := HT1.out
        have fa1 := fa 1
        go_wp2_with fail
        refine C60.out.mono ?_
        rintro x w' ⟨rfl, hb⟩
        obtain ⟨d0, d1, fd⟩ := HT1.out.keep (hb.block w.heap.size (by omega))
        obtain ⟨r0, r1, fr⟩ := HT2.out.keep (hb.block (w.heap.size + 1) (by omega))
        have g1 := fd 0
        have g2 := fr 0
        have g3 := fr 1
        have BB := Lib.hid (below_next BW.out (by omega) hb)
        clear hb
        go_wp2_with fail
        refine bodyPost_ret (v := .tuple #[.agg #[.int .i64 t, .int .i64 0], .int .i64 n]) (by simp [results, Try.results34, go_sem, r0, r1]) rfl ?_
        refine ⟨by rw [Int.toNat_of_nonneg hgt.1], ((BB.out.setCell (by show w.heap.size ≤ w.heap.size; omega) _).setCell (by show w.heap.size ≤ w.heap.size + 1; omega) _).setCell (by show w.heap.size ≤ w.heap.size + 1; omega) _⟩
    · have E := Lib.hid (show cntV s lo hi out ⟨a, 0⟩ = 0 ∧ cntSt s lo hi out ⟨a, 0⟩ = ⟨a, f⟩ from by
        unfold cntV cntSt
        rw [cntE_bad (by rw [hf]; exact hf0), hf, okN_no hf0, if_neg hf0]
        exact ⟨rfl, rfl⟩)
      rw [E.out.1, E.out.2]
      have hf1 : (f != 0) = true := by simpa using hf0
      clear hn ht hf hf0
      go_enter Try.func34, Try.ntmps34
      go_upto_region 1 with (fail)
      rw [show World.alloc (World.alloc w _) _ = W from HW.out.symm]
      obtain ⟨a0, a1, fa⟩ := HT1.out
      have fa1 := fa 1
      go_wp2_with fail
      refine C60.out.mono ?_
      rintro x w' ⟨rfl, hb⟩
      obtain ⟨d0, d1, fd⟩ := HT1.out.keep (hb.block w.heap.size (by omega))
      obtain ⟨r0, r1, fr⟩ := HT2.out.keep (hb.block (w.heap.size + 1) (by omega))
      have g1 := fd 1
      have g2 := fr 0
      have g3 := fr 1
      have BB := Lib.hid (below_next BW.out (by omega) hb)
      clear hb
      go_wp2_with fail
      refine bodyPost_ret (v := .tuple #[.agg #[.int .i64 a, .int .i64 f], .int .i64 0]) (by simp [results, Try.results34, go_sem, r0, r1]) rfl ?_
      exact ⟨rfl, ((BB.out.setCell (by show w.heap.size ≤ w.heap.size; omega) _).setCell (by show w.heap.size ≤ w.heap.size + 1; omega) _).setCell (by show w.heap.size ≤ w.heap.size + 1; omega) _⟩
  · have E := Lib.hid (show cntV s lo hi out ⟨a, e⟩ = 0 ∧ cntSt s lo hi out ⟨a, e⟩ = ⟨a, e⟩ from by
      unfold cntV cntSt
      rw [cntE_old he, okN_no he, if_neg he]
      exact ⟨rfl, rfl⟩)
    rw [E.out.1, E.out.2]
    have he1 : (e != 0) = true := by simpa using he
    clear he
    go_enter Try.func34, Try.ntmps34
    go_wp2_with fail
    refine bodyPost_ret (v := .tuple #[.agg #[.int .i64 a, .int .i64 e], .int .i64 0]) (by simp [results, Try.results34, go_sem]) rfl ?_
    exact ⟨rfl, B0.out _ _⟩

end Go.Proofs.Ytkdkkndccjddnaa

namespace Go.Proofs.Ytkdkkndccjddnaa
open Go.RowKit

theorem bytE_old {s : ByteArray} {a e n : Int} (he : ¬ e = 0) : bytE s a e n = e := by
  unfold bytE
  rw [refD_old he, ite_self]

set_option maxHeartbeats 4000000 in
set_option maxRecDepth 100000 in
theorem rtext_st (s : ByteArray) (z : St) (n : Nat) (w : World) (hs : s.size ≤ 140737488355328) (hz : z.a ≤ s.size) (hn : n ≤ 1000000) :
    Calls Try.prog 35 #[.string s, .agg #[.int .i64 z.a, .int .i64 z.e], .int .i64 n] w (DcGives w (.string (bytV s n z)) (bytSt s n z)) := by
  obtain ⟨a, e⟩ := z
  have hz' : a ≤ s.size := hz
  have B0 := Lib.hid (fun o p => ((Below.refl w.heap.size w).alloc (Nat.le_refl _) o).alloc (o := p) (by simp))
  have va : IntKind.i64.wrap ((a : Int) + (n : Int)) = ((a + n : Nat) : Int) := by rw [IntWalk.i64_in _ (by omega)]; omega
  show Calls Try.prog 35 #[.string s, .agg #[.int .i64 a, .int .i64 e], .int .i64 n] w (DcGives w (.string (bytV s n ⟨a, e⟩)) (bytSt s n ⟨a, e⟩))
  by_cases he : e = 0
  · subst he
    by_cases hr : s.size < a + n
    · have E := Lib.hid (show bytV s n ⟨a, 0⟩ = ⟨#[]⟩ ∧ bytSt s n ⟨a, 0⟩ = ⟨a, 5⟩ from by
        have q : bytE s a 0 n = 5 := by unfold bytE; rw [if_pos (by omega)]; rfl
        unfold bytV bytSt bytS
        rw [q, if_neg (by omega), if_neg (by omega)]
        exact ⟨rfl, rfl⟩)
      rw [E.out.1, E.out.2]
      have k1 : ((s.size : Nat) : Int) < ((a + n : Nat) : Int) := by omega
      clear hr
      go_enter Try.func35, Try.ntmps35
      go_wp2_with fail
      refine bodyPost_ret (v := .tuple #[.agg #[.int .i64 a, .int .i64 5], .string ⟨#[]⟩]) (by simp [results, Try.results35, go_sem]) rfl ?_
      exact ⟨rfl, B0.out _ _⟩
    · have E := Lib.hid (show bytV s n ⟨a, 0⟩ = s.extract a (a + n) ∧ bytSt s n ⟨a, 0⟩ = ⟨a + n, 0⟩ from by
        have q : bytE s a 0 n = 0 := by unfold bytE; rw [if_neg (by omega)]
        unfold bytV bytSt bytS
        rw [q, if_pos rfl, if_pos rfl]
        exact ⟨by congr 1, rfl⟩)
      rw [E.out.1, E.out.2]
      obtain ⟨b, hb⟩ : ∃ b, b = a + n := ⟨_, rfl⟩
      rw [← hb] at va ⊢
      have k1 : ¬ ((s.size : Nat) : Int) < (b : Int) := by omega
      have k2 : b ≤ s.size := by omega
      have k3 : a ≤ b := by omega
      have vb : IntKind.i64.wrap ((b : Int) - (n : Int)) = (a : Int) := by rw [IntWalk.i64_in _ (by omega)]; omega
      clear hr hb
      go_enter Try.func35, Try.ntmps35
      go_upto_region 7 with (fail)
      go_region
      go_wp2_with fail
      refine bodyPost_ret (v := .tuple #[.agg #[.int .i64 b, .int .i64 0], .string (s.extract a b)]) (by simp [results, Try.results35, go_sem]) rfl ?_
      exact ⟨rfl, (B0.out _ _).drew⟩
  · have E := Lib.hid (show bytV s n ⟨a, e⟩ = ⟨#[]⟩ ∧ bytSt s n ⟨a, e⟩ = ⟨a, e⟩ from by
      unfold bytV bytSt bytS
      rw [bytE_old he, if_neg he, if_neg he]
      exact ⟨rfl, rfl⟩)
    rw [E.out.1, E.out.2]
    have he1 : (e != 0) = true := by simpa using he
    clear he
    go_enter Try.func35, Try.ntmps35
    go_wp2_with fail
    refine bodyPost_ret (v := .tuple #[.agg #[.int .i64 a, .int .i64 e], .string ⟨#[]⟩]) (by simp [results, Try.results35, go_sem]) rfl ?_
    exact ⟨rfl, B0.out _ _⟩

end Go.Proofs.Ytkdkkndccjddnaa
