/-
  Encode and Bare: the bytes of a transaction that may be.
-/
import Derived.Test.YtfobdefncbaooaaDoorWr
import Derived.Test.YtfobdefncbaooaaDoorPwalk
namespace Go.Proofs.YtfobdefncbaooaaDoor
open Go.RowKit

theorem addOk_nonneg {s a : Int} (h : addOk s a = true) : 0 ≤ a := by
  by_cases hg : 0 ≤ a ∧ a ≤ 2100000000000000
  · exact hg.1
  · unfold addOk at h
    rw [goodB_false hg] at h
    simp at h
theorem sum_nonneg (s : Int) (zs : List Int) (h : (sumFrom s zs).2 = 0) : ∀ z ∈ zs, 0 ≤ z := by
  induction zs generalizing s with
  | nil => simp
  | cons a r ih =>
    cases hok : addOk s a
    · simp [sumFrom, hok] at h
    · simp only [sumFrom, hok, if_true] at h
      intro z hz
      rcases List.mem_cons.1 hz with rfl | hz
      · exact addOk_nonneg hok
      · exact ih (s + a) h z hz
theorem check_vals {t : TxD} (h : checkD t = 0) : ∀ x ∈ t.outs, 0 ≤ x.val := by
  have htot : (totalD t.outs).2 = 0 := by
    unfold checkD at h
    split at h
    · omega
    · split at h
      · omega
      · split at h
        · omega
        · split at h
          · omega
          · exact h
  intro x hx
  exact sum_nonneg 0 _ htot _ (List.mem_map.2 ⟨x, hx, rfl⟩)

/-- The bytes, or none beside an error. -/
def encS (t : TxD) (m : Bool) : ByteArray := if checkD t = 0 then wireS t m else ⟨#[]⟩
/-- Is a Witness not empty? -/
def hasW (t : TxD) : Bool := t.ins.any fun x => decide (0 < x.wit.length)

theorem ret_se {a b : ByteArray} {c d : Int} (h : a = b) (h2 : c = d) : Ending.returned (.tuple #[.string a, .int .i64 c]) = .returned (.tuple #[.string b, .int .i64 d]) := by rw [h, h2]

set_option maxHeartbeats 1000000 in
set_option maxRecDepth 100000 in
theorem checked_any (t : TxD) (vi vo : Value) (m : Bool) (w : World) (ht : TxAt w 0 w.heap.size vi vo t) (hok : t.Ok) :
    Calls Tryd.prog 36 #[.agg #[.int .u32 t.ver, vi, vo, .int .u32 t.lock], .bool m] w fun e w' => e = .returned (.tuple #[.string (encS t m), .int .i64 (checkD t)]) ∧ Below w.heap.size w w' := by
  obtain ⟨A1, m1, rfl⟩ := ht.1.form
  obtain ⟨A2, m2, rfl⟩ := ht.2.form
  have HT := Lib.hid ht
  have HO := Lib.hid hok
  clear ht hok
  have B0 := Lib.hid (fun o => (Below.refl w.heap.size w).alloc (Nat.le_refl _) o)
  obtain ⟨w1, hw1⟩ : ∃ w1, w1 = w.alloc (.cells #[.int .u32 t.ver, .slice A1 t.ins.length m1, .slice A2 t.outs.length m2, .int .u32 t.lock] 26) := ⟨_, rfl⟩
  have hb1 : Below w.heap.size w w1 := by rw [hw1]; exact B0.out _
  have hT1 : TxAt w1 0 w.heap.size (.slice A1 t.ins.length m1) (.slice A2 t.outs.length m2) t := HT.out.keep (Kept.of_below hb1 (Nat.le_refl _))
  have z1 : w1.heap.size = w.heap.size + 1 := by rw [hw1]; simp
  have bx : Boxed w1 w.heap.size (.int .u32 t.ver) (.slice A1 t.ins.length m1) (.slice A2 t.outs.length m2) (.int .u32 t.lock) := by rw [hw1]; exact Boxed.new _ _ _ _ _ _
  have HT1 := Lib.hid hT1
  have HB1 := Lib.hid hb1
  have BX := Lib.hid bx
  have HW1 := Lib.hid hw1
  clear hb1 hT1 hw1
  go_enter Tryd.func36, Tryd.ntmps36
  go_upto_region 1 with (fail)
  rw [show World.alloc w _ = w1 from HW1.out.symm]
  obtain ⟨a0, a1, a2, a3⟩ := bx
  go_wp2_with fail
  refine (check_any t _ _ w1 0 w.heap.size HT1.out (by omega) HO.out).mono ?_
  rintro e w2 ⟨rfl, hb2⟩
  have BX2 := Lib.hid (BX.out.below (by omega) hb2)
  have HT2 := Lib.hid (HT1.out.keep (Kept.of_below hb2 (by omega)))
  have HB2 := Lib.hid (below_next HB1.out (by omega) hb2)
  have z2 := hb2.size
  clear hb2 a0 a1 a2 a3
  by_cases hz : checkD t = 0
  · have e1 : (checkD t != 0) = false := by simpa using hz
    have E := Lib.hid (show encS t m = wireS t m from by unfold encS; rw [if_pos hz])
    have HZ := Lib.hid hz
    clear hz
    obtain ⟨a0, a1, a2, a3⟩ := BX2.out
    go_wp2_with fail
    refine (write_any t _ _ m w2 (HT2.out.wide (Nat.le_refl _) (by omega)) HO.out (check_vals HZ.out)).mono ?_
    rintro e w3 ⟨rfl, hb3⟩
    go_wp2_with fail
    go_ret2
    exact ⟨ret_se E.out.symm HZ.out.symm, below_next HB2.out (by omega) hb3⟩
  · have e1 : (checkD t != 0) = true := by simpa using hz
    have E := Lib.hid (show encS t m = ⟨#[]⟩ from by unfold encS; rw [if_neg hz])
    clear hz
    go_wp2_with fail
    go_ret2
    exact ⟨ret_se E.out.symm rfl, HB2.out⟩

set_option maxHeartbeats 400000 in
theorem some_any (a : ByteArray) (i q : Int) (A : Option Addr) (n c : Nat) (w : World) :
    Calls Tryd.prog 35 #[.agg #[.string a, .int .u32 i, .int .u32 q, .slice A n c]] w fun e w' => e = .returned (.bool (decide (0 < n))) ∧ Below w.heap.size w w' := by
  go_enter Tryd.func35, Tryd.ntmps35
  go_wp2
  go_ret
  exact ⟨ret_bool (by simp), (Below.refl _ _).alloc (Nat.le_refl _) _⟩
theorem eg19 : ∀ args w, (callFunc 35 args).run Tryd.prog w = .ok (.enter 35 args) w := enters_of Tryd.func35 (by kernel_rfl) rfl

set_option maxHeartbeats 1000000 in
set_option maxRecDepth 100000 in
theorem bare_any (t : TxD) (vi vo : Value) (w : World) (ht : TxAt w 0 w.heap.size vi vo t) (hok : t.Ok) :
    Calls Tryd.prog 25 #[.agg #[.int .u32 t.ver, vi, vo, .int .u32 t.lock]] w fun e w' => e = .returned (.tuple #[.string (encS t false), .int .i64 (checkD t)]) ∧ Below w.heap.size w w' := by
  have HT := Lib.hid ht
  have HO := Lib.hid hok
  clear ht hok
  have B0 := Lib.hid (fun o => (Below.refl w.heap.size w).alloc (Nat.le_refl _) o)
  go_enter Tryd.func25, Tryd.ntmps25
  go_wp2_with fail
  refine (checked_any t vi vo false _ ((HT.out.keep (Kept.of_below (B0.out _) (Nat.le_refl _))).wide (Nat.le_refl _) (by simp)) HO.out).mono ?_
  rintro e w3 ⟨rfl, hb3⟩
  go_wp2_with fail
  go_ret2
  exact ⟨rfl, below_next (B0.out _) (by simp) hb3⟩

set_option maxHeartbeats 2000000 in
set_option maxRecDepth 100000 in
theorem encode_any (t : TxD) (vi vo : Value) (w : World) (ht : TxAt w 0 w.heap.size vi vo t) (hok : t.Ok) :
    Calls Tryd.prog 21 #[.agg #[.int .u32 t.ver, vi, vo, .int .u32 t.lock]] w fun e w' => e = .returned (.tuple #[.string (encS t (hasW t)), .int .i64 (checkD t)]) ∧ Below w.heap.size w w' := by
  obtain ⟨A1, m1, rfl⟩ := ht.1.form
  obtain ⟨A2, m2, rfl⟩ := ht.2.form
  have HT := Lib.hid ht
  have HO := Lib.hid hok
  clear ht hok
  have B0 := Lib.hid (fun o => (Below.refl w.heap.size w).alloc (Nat.le_refl _) o)
  obtain ⟨w1, hw1⟩ : ∃ w1, w1 = w.alloc (.cells #[.int .u32 t.ver, .slice A1 t.ins.length m1, .slice A2 t.outs.length m2, .int .u32 t.lock] 26) := ⟨_, rfl⟩
  have hb1 : Below w.heap.size w w1 := by rw [hw1]; exact B0.out _
  have z1 : w1.heap.size = w.heap.size + 1 := by rw [hw1]; simp
  have bx : Boxed w1 w.heap.size (.int .u32 t.ver) (.slice A1 t.ins.length m1) (.slice A2 t.outs.length m2) (.int .u32 t.lock) := by rw [hw1]; exact Boxed.new _ _ _ _ _ _
  have HT1 := Lib.hid (HT.out.keep (Kept.of_below hb1 (Nat.le_refl _)))
  have HB1 := Lib.hid hb1
  have HW1 := Lib.hid hw1
  clear hb1 hw1
  go_enter Tryd.func21, Tryd.ntmps21
  go_upto_region 2 with (fail)
  rw [show World.alloc w _ = w1 from HW1.out.symm]
  have l9 : w.heap.size < w1.heap.size := by omega
  have r0 : ∀ x : After w1, x.val.cell? ⟨w.heap.size, 0, none⟩ = some (.int .u32 t.ver) := fun x => (x.ok.cell (p := ⟨w.heap.size, 0, none⟩) l9).trans bx.1
  have r1 : ∀ x : After w1, x.val.cell? ⟨w.heap.size, 1, none⟩ = some (.slice A1 t.ins.length m1) := fun x => (x.ok.cell (p := ⟨w.heap.size, 1, none⟩) l9).trans bx.2.1
  have r2 : ∀ x : After w1, x.val.cell? ⟨w.heap.size, 2, none⟩ = some (.slice A2 t.outs.length m2) := fun x => (x.ok.cell (p := ⟨w.heap.size, 2, none⟩) l9).trans bx.2.2.1
  have r3 : ∀ x : After w1, x.val.cell? ⟨w.heap.size, 3, none⟩ = some (.int .u32 t.lock) := fun x => (x.ok.cell (p := ⟨w.heap.size, 3, none⟩) l9).trans bx.2.2.2
  have hne : Nonempty (After w1) := ⟨⟨w1, Below.refl _ _⟩⟩
  have KT := Lib.hid (fun x : After w1 => HT1.out.keep (Kept.of_below x.ok (by omega)))
  have C21 := Lib.hid (fun x : After w1 => has_in 35 #[] eg19 (fun y => decide (0 < y.wit.length)) A1 _ m1 t.ins x.val 0 w.heap.size (KT.out x).1 (by have := x.ok.size; omega) HO.out.1 (by
    intro W y A n c _ _ hs
    obtain ⟨_, _, hv, _⟩ := hs
    injection hv with _ hn
    subst hn
    exact some_any _ _ _ _ _ _ _))
  have C20 := Lib.hid (fun x : After w1 => checked_any t _ _ (hasW t) x.val ((KT.out x).wide (Nat.le_refl _) (by have := x.ok.size; omega)) HO.out)
  have eh : (t.ins.any fun y => decide (0 < y.wit.length)) = hasW t := rfl
  rw [eh] at C21
  generalize hhb : hasW t = hb at C21 C20
  generalize hes : encS t hb = es at C20
  generalize hcd : checkD t = cd at C20
  have EE := Lib.hid (show es = encS t (hasW t) ∧ cd = checkD t from ⟨by rw [hhb]; exact hes.symm, hcd.symm⟩)
  clear hhb hes hcd eh
  clear bx
  refine wp_region_after (by kernel_rfl) (by kernel_rfl) ?_
  repeat (go_big_quiet_step ((first | (go_at_call 37; exact After.call _ (C21.out _)) | (go_at_call 36; exact After.call _ (C20.out _)))))
  refine wpQuiet_nil ?_
  rintro _ ⟨x, rfl⟩
  have hx := x.ok
  go_wp2_with fail
  go_ret2
  exact ⟨ret_se EE.out.1 EE.out.2, below_next HB1.out (by omega) hx⟩

end Go.Proofs.YtfobdefncbaooaaDoor
