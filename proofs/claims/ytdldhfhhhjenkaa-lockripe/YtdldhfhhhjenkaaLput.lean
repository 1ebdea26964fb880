/-
  The program's Put of a lock, and the document's.
-/
import Derived.Test.YtdldhfhhhjenkaaBrd
import Derived.Deep.RegionHeld3
import Derived.Deep.DeepCutAuto
import Derived.Deep.CutBlock
namespace Go.Proofs.Ytdldhfhhhjenkaa
open Go.RowKit

theorem ptE_count {xs : List BrD} (h : xs.length < 1 ∨ 3 < xs.length) : ptE xs = 6 ∧ ptS xs = ⟨#[]⟩ := by
  have e : ptE xs = 6 := by unfold ptE; rw [if_pos h]
  exact ⟨e, by unfold ptS; rw [e, if_neg (by decide)]⟩
theorem ptE_high {xs : List BrD} (h : ¬ (xs.length < 1 ∨ 3 < xs.length)) (hh : xs.any highB = true) : ptE xs = 3 ∧ ptS xs = ⟨#[]⟩ := by
  have e : ptE xs = 3 := by unfold ptE; rw [if_neg h, if_pos hh]
  exact ⟨e, by unfold ptS; rw [e, if_neg (by decide)]⟩
theorem ptE_ok {xs : List BrD} (h : ¬ (xs.length < 1 ∨ 3 < xs.length)) (hh : xs.any highB = false) : ptE xs = 0 ∧ ptS xs = scr xs := by
  have e : ptE xs = 0 := by unfold ptE; rw [if_neg h, if_neg (by rw [hh]; decide)]
  exact ⟨e, by unfold ptS; rw [if_pos e]⟩

/-- Three texts of a branch, added behind s. -/
theorem adds (s a b c : ByteArray) (hs : s.size ≤ 100) (ha : a.size = 2) (hb : b.size = 2) (hc : c.size = 4) :
    (∀ W : World, (Op.stringOp .add a b).run Try.prog W = .ok (.string (a ++ b)) W) ∧ (∀ W : World, (Op.stringOp .add (a ++ b) c).run Try.prog W = .ok (.string (a ++ b ++ c)) W) ∧ (∀ W : World, (Op.stringOp .add s (a ++ b ++ c)).run Try.prog W = .ok (.string (s ++ (a ++ b ++ c))) W) :=
  ⟨fun W => run_string_add_sum (w := W) a b (by omega), fun W => run_string_add_sum (w := W) _ c (by rw [ByteArray.size_append]; omega), fun W => run_string_add_sum (w := W) s _ (by rw [ByteArray.size_append, ByteArray.size_append]; omega)⟩

set_option maxHeartbeats 2000000 in
set_option maxRecDepth 100000 in
theorem lput_any (xs : List BrD) (v : Value) (w : World) (lo hi : Nat) (hx : Brs w lo hi v xs) (hhi : hi ≤ w.heap.size) (hl : xs.length ≤ 512) (hok : ∀ x ∈ xs, x.Ok) :
    Calls Try.prog 9 #[v] w fun e w' => e = .returned (.tuple #[.string (ptS xs), .int .i64 (ptE xs)]) ∧ Below w.heap.size w w' := by
  obtain ⟨A, c, rfl⟩ := hx.form
  obtain ⟨n, hn⟩ : ∃ n, xs.length = n := ⟨_, rfl⟩
  have HN := Lib.hid hn
  by_cases hc : xs.length < 1 ∨ 3 < xs.length
  · have E := Lib.hid (ptE_count hc)
    rw [hn] at hc ⊢
    clear hx hok hn hl
    rcases hc with hc | hc
    · have c1 : (n : Int) < 1 := by omega
      go_enter Try.func9, Try.ntmps9
      go_wp2_with fail
      go_ret2
      exact ⟨ret_se E.out.2.symm E.out.1.symm, Below.refl _ _⟩
    · have c1 : ¬ (n : Int) < 1 := by omega
      have c2 : (3 : Int) < (n : Int) := by omega
      go_enter Try.func9, Try.ntmps9
      go_wp2_with fail
      go_ret2
      exact ⟨ret_se E.out.2.symm E.out.1.symm, Below.refl _ _⟩
  · have HF := Lib.hid (has_br A n c xs w lo hi (by rw [← hn]; exact hx) hhi hl)
    have HX := Lib.hid hx
    have HO := Lib.hid hok
    have HC := Lib.hid hc
    rw [hn] at hc ⊢
    rw [hn] at HX
    have c1 : ¬ (n : Int) < 1 := by omega
    have c2 : ¬ (3 : Int) < (n : Int) := by omega
    have n3 : n ≤ 3 := by omega
    clear hx hok hn hl
    cases hh : xs.any highB with
    | true =>
      have E := Lib.hid (ptE_high HC.out hh)
      rw [hh] at HF
      clear hh
      go_enter Try.func9, Try.ntmps9
      go_wp2_with fail
      refine HF.out.mono ?_
      rintro e w1 ⟨rfl, hb1⟩
      go_wp2_with fail
      go_ret2
      exact ⟨ret_se E.out.2.symm E.out.1.symm, hb1⟩
    | false =>
      have E := Lib.hid (ptE_ok HC.out hh)
      rw [hh] at HF
      clear hh
      have v0 : IntKind.u64.wrap (n : Int) = (n : Int) := by rw [IntWalk.u64_in _ (by omega)]
      go_enter Try.func9, Try.ntmps9
      go_wp2_with fail
      refine HF.out.mono ?_
      rintro e w1 ⟨rfl, hb1⟩
      have B1 := Lib.hid hb1
      clear hb1
      go_wp2_with fail
      refine (Oc.put_any (n : Int) 1 w1 (by omega) (by omega)).mono ?_
      rintro e w2 ⟨rfl, hb2⟩
      have B2 := Lib.hid (below_next B1.out B1.out.size hb2)
      clear hb2
      go_wp2_with fail
      go_loopg [4, 6, 23] n (fun gg s4 _ s23 wr => ∃ k : Nat, k ≤ n ∧ n - k ≤ gg ∧ s23 = .int .i64 k ∧ s4 = .string (Oc.putS (n : Int) 1 ++ catL brS (xs.take k)) ∧ Hid (Below w.heap.size w wr))
      case atStart => exact ⟨0, Nat.zero_le _, by omega, rfl, by simp [catL], B2⟩
      case round =>
        obtain ⟨k, hk, hg, rfl, rfl, BW⟩ := hrel
        by_cases hlt : k < n
        · have k1 : (k : Int) < (n : Int) := by omega
          have k2 : decide (k < n) = true := decide_eq_true hlt
          obtain ⟨x, hxk⟩ : ∃ x, xs[k]? = some x := ⟨_, List.getElem?_eq_getElem (by have := HN.out; omega)⟩
          obtain ⟨b, off, rfl, h1, h2, c0, c1', c2'⟩ := (HX.out.keep (Kept.of_below BW.out hhi)).at hxk
          obtain ⟨o1, o2, o3, o4, o5, o6⟩ := HO.out x (List.mem_of_getElem? hxk)
          have CS := Lib.hid (catL_step brS hxk)
          obtain ⟨s, hs⟩ : ∃ s, Oc.putS (n : Int) 1 ++ catL brS (xs.take k) = s := ⟨_, rfl⟩
          have hss : s.size ≤ 100 := by rw [← hs, ByteArray.size_append, put_sz1, cat_size, List.length_take]; omega
          have HS := Lib.hid hs
          rw [hs]
          clear hs hxk
          obtain ⟨wx, hwx⟩ : ∃ wx, wx = wr.alloc (.cells #[.int .u16 x.tag, .int .u16 x.del, .int .u32 x.hgt] 34) := ⟨_, rfl⟩
          have bx : Below wr.heap.size wr wx := by rw [hwx]; exact (Below.refl _ _).alloc (Nat.le_refl _) _
          have zx : wr.heap.size < wx.heap.size := by rw [hwx]; simp
          have BX := Lib.hid (below_next BW.out BW.out.size bx)
          have HWX := Lib.hid hwx
          have d0 : wx.cell? ⟨wr.heap.size, 0, none⟩ = some (.int .u16 x.tag) := by rw [hwx]; simp
          have d1 : wx.cell? ⟨wr.heap.size, 1, none⟩ = some (.int .u16 x.del) := by rw [hwx]; simp
          have d2 : wx.cell? ⟨wr.heap.size, 2, none⟩ = some (.int .u32 x.hgt) := by rw [hwx]; simp
          have r0 : ∀ y : After wx, y.val.cell? ⟨wr.heap.size, 0, none⟩ = some (.int .u16 x.tag) := fun y => (y.ok.cell (p := ⟨wr.heap.size, 0, none⟩) zx).trans d0
          have r1 : ∀ y : After wx, y.val.cell? ⟨wr.heap.size, 1, none⟩ = some (.int .u16 x.del) := fun y => (y.ok.cell (p := ⟨wr.heap.size, 1, none⟩) zx).trans d1
          have r2 : ∀ y : After wx, y.val.cell? ⟨wr.heap.size, 2, none⟩ = some (.int .u32 x.hgt) := fun y => (y.ok.cell (p := ⟨wr.heap.size, 2, none⟩) zx).trans d2
          have v1 : IntKind.u64.wrap x.tag = x.tag := by rw [IntWalk.u64_in _ (by omega)]
          have v2 : IntKind.u64.wrap x.del = x.del := by rw [IntWalk.u64_in _ (by omega)]
          have v3 : IntKind.u64.wrap x.hgt = x.hgt := by rw [IntWalk.u64_in _ (by omega)]
          have C1 := Lib.hid (fun y : After wx => Oc.put_any x.tag 2 y.val (by omega) (by omega))
          have C2 := Lib.hid (fun y : After wx => Oc.put_any x.del 2 y.val (by omega) (by omega))
          have C4 := Lib.hid (fun y : After wx => Oc.put_any x.hgt 4 y.val (by omega) (by omega))
          obtain ⟨ad1, ad2, ad3⟩ := adds s (Oc.putS x.tag 2) (Oc.putS x.del 2) (Oc.putS x.hgt 4) hss (put_sz2 _) (put_sz2 _) (put_sz4 _)
          have HR := Lib.hid (show s ++ (Oc.putS x.tag 2 ++ Oc.putS x.del 2 ++ Oc.putS x.hgt 4) = Oc.putS (n : Int) 1 ++ catL brS (xs.take (k + 1)) from by rw [CS.out, ← HS.out, ByteArray.append_assoc]; rfl)
          unfold Oc.PutEnd at C1 C2 C4
          generalize Oc.putS x.tag 2 = sa at C1 ad1 ad2 ad3 HR
          generalize Oc.putS x.del 2 = sb at C2 ad1 ad2 ad3 HR
          generalize Oc.putS x.hgt 4 = sc at C4 ad2 ad3 HR
          have hne : Nonempty (After wx) := ⟨⟨wx, Below.refl _ _⟩⟩
          clear bx hwx
          go_upto_region 9 with (fail)
          rw [show World.alloc wr _ = wx from HWX.out.symm]
          refine wp_region_after (by kernel_rfl) (by kernel_rfl) ?_
          repeat (go_big_quiet_step ((first | (go_at_call 29; with_reducible exact After.call _ (C1.out _)) | (go_at_call 29; with_reducible exact After.call _ (C2.out _)) | (go_at_call 29; with_reducible exact After.call _ (C4.out _)))))
          refine wpQuiet_nil ?_
          rintro _ ⟨y, rfl⟩
          have KY := Lib.hid (below_next BX.out BX.out.size (y.ok.mono (Nat.le_refl _)))
          go_wp2_with fail
          go_roundg (n - (k + 1))
          case measure => omega
          case rel => exact ⟨k + 1, by omega, by omega, by go_num, by rw [HR.out], KY⟩
        · have k1 : ¬ (k : Int) < (n : Int) := by omega
          obtain rfl : k = n := by omega
          have ES := Lib.hid (show Oc.putS (k : Int) 1 ++ catL brS (xs.take k) = ptS xs from by rw [E.out.2, ← HN.out, List.take_length]; rfl)
          go_wp2_with fail
          go_ret2
          exact ⟨ret_se ES.out E.out.1.symm, BW.out⟩

end Go.Proofs.Ytdldhfhhhjenkaa
