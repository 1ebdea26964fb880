/-
  The document's Get of a lock.
-/
import Derived.Test.YtjclklppnkoehaaGreatDoorLget
import Derived.Test.YtjclklppnkoehaaGreatDoorRput
import Derived.OwnWalk
namespace Go.Proofs.YtjclklppnkoehaaGreatDoor
open Go.RowKit
set_option maxRecDepth 100000

theorem first_byte {s : ByteArray} (h : 0 < s.size) : Oc.getN s 0 1 = (s[0].toNat : Int) := by
  have e := Oc.getN_yes (s := s) (a := 0) (k := 1) (by decide) (by omega)
  have e2 := Oc.part_step s 0 0 (by omega)
  have e3 : Oc.part s 0 0 = [] := by simp [Oc.part]
  rw [e3] at e2
  have e4 : Oc.getN s 0 1 = Oc.num (Oc.part s 0 1) := e
  rw [e4, e2]
  simp [Oc.num]

/-- The cells of branches. -/
def brC (x : BrD) : List Value := [.int .u16 x.tag, .int .u16 x.del, .int .u32 x.hgt]
def brsC (xs : List BrD) : List Value := xs.flatMap brC
theorem brsC_snoc (xs : List BrD) (x : BrD) : brsC (xs ++ [x]) = brsC xs ++ [.int .u16 x.tag, .int .u16 x.del, .int .u32 x.hgt] := by simp [brsC, brC]
theorem brsC_at {xs : List BrD} {k : Nat} {x : BrD} (h : xs[k]? = some x) : (brsC xs)[k * 3]? = some (.int .u16 x.tag) ∧ (brsC xs)[k * 3 + 1]? = some (.int .u16 x.del) ∧ (brsC xs)[k * 3 + 2]? = some (.int .u32 x.hgt) := by
  induction xs generalizing k with
  | nil => simp at h
  | cons y r ih =>
    have e : brsC (y :: r) = .int .u16 y.tag :: .int .u16 y.del :: .int .u32 y.hgt :: brsC r := rfl
    rw [e]
    cases k with
    | zero =>
      simp at h
      subst h
      exact ⟨rfl, rfl, rfl⟩
    | succ k =>
      have h' : r[k]? = some x := by simpa using h
      have := ih h'
      rw [show (k + 1) * 3 = k * 3 + 3 from by omega]
      exact this
theorem own_brs {w : World} {base : Nat} {v : Value} {xs : List BrD} (h : w.ownsRow base 101 3 v xs.length (brsC xs)) : Brs w base w.heap.size v xs := by
  rcases h.2 with ⟨rfl, h0⟩ | ⟨g, cap, cur, rfl, hb, hg, hn, hm, hs, htk⟩
  · have : xs = [] := List.eq_nil_of_length_eq_zero h0
    subst this
    exact Brs.nil _ _ _
  · have hlt : g < w.heap.size := by
      rcases Nat.lt_or_ge g w.heap.size with h' | h'
      · exact h'
      · rw [Array.getElem?_eq_none h'] at hg; cases hg
    refine ⟨_, cap, rfl, hn, .inr ⟨g, 0, rfl, hb, hlt, fun k x hx => ?_⟩⟩
    obtain ⟨a0, a1, a2⟩ := brsC_at hx
    have hc := h.cells (g := g) rfl
    have c0 := hc _ _ a0
    have c1 := hc _ _ a1
    have c2 := hc _ _ a2
    simp only [Addr.add_lit, Nat.zero_add] at c0 c1 c2
    rw [Nat.zero_add]
    exact ⟨c0, c1, c2⟩
theorem lk_own_form {w : World} {base : Nat} {e : TypeId} {size n : Nat} {v : Value} {xs : List Value} (h : w.ownsRow base e size v n xs) : ∃ A c, v = .slice A n c := by
  rcases h.2 with ⟨rfl, h0⟩ | ⟨g, cap, cur, rfl, _⟩
  · exact ⟨none, 0, by rw [h0]⟩
  · exact ⟨_, _, rfl⟩
theorem lk_own_block {w : World} {base : Nat} {e : TypeId} {size n : Nat} {v : Value} {xs : List Value} (h : w.ownsRow base e size v n xs) : ∀ k, v.ownBlock = some k → base ≤ k := by
  intro k hk
  rcases h.2 with ⟨rfl, _⟩ | ⟨g, cap, cur, rfl, hb, _⟩
  · simp [Value.ownBlock] at hk
  · simp [Value.ownBlock] at hk
    omega
theorem three_new (w : World) (a b c : Value) (t : TypeId) : ∀ j u, [a, b, c][j]? = some u → (w.alloc (.cells #[a, b, c] t)).cell? ((⟨w.heap.size, 0, none⟩ : Addr).add j) = some u := by
  intro j u hj
  rw [Addr.add_lit]
  match j, hj with
  | 0, hj => simp at hj; subst hj; simp
  | 1, hj => simp at hj; subst hj; simp
  | 2, hj => simp at hj; subst hj; simp
theorem gtL_at {s : ByteArray} {k : Nat} (h : k < gtN s) : (gtL s)[k]? = some (brG s (1 + k * 8)) := by
  unfold gtL
  rw [List.getElem?_map, List.getElem?_range h]
  rfl

set_option maxHeartbeats 4000000 in
set_option maxRecDepth 100000 in
theorem rlget_any (s : ByteArray) (w : World) (hs : s.size ≤ maxLen) :
    Calls Tryz.prog 50 #[.string s] w fun e w' => ∃ v, e = .returned v ∧ Brs w' w.heap.size w'.heap.size v (gtR s) ∧ Below w.heap.size w w' := by
  obtain ⟨i0, hi0, y0, y1, y2⟩ := info_parts' info34
  by_cases hc : s.size = 9 ∨ s.size = 17 ∨ s.size = 25
  · obtain ⟨n, hn, hn1, hn3⟩ : ∃ n : Nat, s.size = 1 + n * 8 ∧ 1 ≤ n ∧ n ≤ 3 := by
      rcases hc with h | h | h
      · exact ⟨1, by omega, by omega, by omega⟩
      · exact ⟨2, by omega, by omega, by omega⟩
      · exact ⟨3, by omega, by omega, by omega⟩
    have hp : 0 < s.size := by omega
    have hfb := first_byte hp
    obtain ⟨z, hz⟩ : ∃ z, s.size = z := ⟨_, rfl⟩
    obtain ⟨m, hm⟩ : ∃ m : Nat, m = n * 8 := ⟨_, rfl⟩
    have e1 : (s.size : Int) - 1 = (m : Int) := by omega
    have e2 : IntKind.i64.wrap (m : Int) = (m : Int) := by rw [IntWalk.i64_in _ (by omega)]
    have e3 : (m : Int).tdiv 8 = (n : Int) := by rw [Int.tdiv_eq_ediv_of_nonneg (by omega)]; omega
    have e4 : IntKind.i64.wrap (n : Int) = (n : Int) := by rw [IntWalk.i64_in _ (by omega)]
    have hsel : ((s.size : Int) != 9) = false ∨ (((s.size : Int) != 9) = true ∧ ((s.size : Int) != 17) = false) ∨ (((s.size : Int) != 9) = true ∧ ((s.size : Int) != 17) = true ∧ ((s.size : Int) != 25) = false) := by
      simp only [bne_eq_false_iff_eq, bne_iff_ne, ne_eq]
      omega
    have HN := Lib.hid hn
    have HSZ := Lib.hid hs
    have hbd := (s[0]).toNat_lt
    obtain ⟨f, hf⟩ : ∃ f : Nat, s[0].toNat = f := ⟨_, rfl⟩
    rw [hf] at hfb hbd
    have e5 : IntKind.i64.wrap (f : Int) = (f : Int) := by rw [IntWalk.i64_in _ (by omega)]
    by_cases hfn : f = n
    · subst hfn
      have hgn : gtN s = f := by unfold gtN; rw [hfb]; omega
      have hsh : shB s = true := by unfold shB; rw [hgn]; simpa using ⟨hn1, hn3, hn⟩
      have c1 : ((f : Int) != (f : Int)) = false := by simp
      have HGN := Lib.hid hgn
      have HSH := Lib.hid hsh
      clear hc hn hz hm hfb hgn hsh hs
      rcases hsel with q1 | ⟨q1, q2⟩ | ⟨q1, q2, q3⟩
      all_goals
        go_enter Tryz.func50, Tryz.ntmps50
        go_wp2_with fail
        go_loopg [4, 5, 6, 7, 8, 9, 10, 11] f (fun gg s4 s5 _ _ _ _ _ _ wr => ∃ (k : Nat) (v : Value), k ≤ f ∧ f - k ≤ gg ∧ s5 = .int .i64 k ∧ s4 = v ∧ Hid (wr.ownsRow w.heap.size 101 3 v k (brsC ((gtL s).take k))) ∧ Hid (∀ j, j < k → highB (brG s (1 + j * 8)) = false) ∧ Hid (Below w.heap.size w wr))
        case atStart => exact ⟨0, .slice none 0 0, Nat.zero_le _, by omega, rfl, rfl, World.ownsRow_nil _ _ 101 3, fun j hj => absurd hj (Nat.not_lt_zero _), Below.refl _ _⟩
        case round =>
          obtain ⟨k, v, hk, hg, rfl, hv, OW, A0, BW⟩ := hrel
          replace hv := hv.symm
          subst hv
          by_cases hlt : k < f
          · have k1 : (k : Int) < (f : Int) := by omega
            have k2 : decide (k < f) = true := decide_eq_true hlt
            obtain ⟨A, c, rfl⟩ := lk_own_form OW.out
            obtain ⟨a1, ha1⟩ : ∃ a : Nat, a = 1 + k * 8 := ⟨_, rfl⟩
            obtain ⟨a3, ha3⟩ : ∃ a : Nat, a = a1 + 2 := ⟨_, rfl⟩
            obtain ⟨a5, ha5⟩ : ∃ a : Nat, a = a1 + 4 := ⟨_, rfl⟩
            have p1 : 1 + 8 * (k : Int) = (a1 : Int) := by omega
            have p3 : 3 + 8 * (k : Int) = (a3 : Int) := by omega
            have p5 : 5 + 8 * (k : Int) = (a5 : Int) := by omega
            have p0 : IntKind.i64.wrap (8 * (k : Int)) = 8 * (k : Int) := by rw [IntWalk.i64_in _ (by omega)]
            have w1 : IntKind.i64.wrap (a1 : Int) = (a1 : Int) := by rw [IntWalk.i64_in _ (by omega)]
            have w3 : IntKind.i64.wrap (a3 : Int) = (a3 : Int) := by rw [IntWalk.i64_in _ (by omega)]
            have w5 : IntKind.i64.wrap (a5 : Int) = (a5 : Int) := by rw [IntWalk.i64_in _ (by omega)]
            have C1 := Lib.hid (fun W => Oc.rget_any s (a1 : Int) 2 W HSZ.out)
            have C3 := Lib.hid (fun W => Oc.rget_any s (a3 : Int) 2 W HSZ.out)
            have C5 := Lib.hid (fun W => Oc.rget_any s (a5 : Int) 4 W HSZ.out)
            unfold Oc.GetEnd at C1 C3 C5
            have b1 := getN_bd2 s (a1 : Int)
            have b3 := getN_bd2 s (a3 : Int)
            have b5 := getN_bd4 s (a5 : Int)
            have EG := Lib.hid (show brG s (1 + k * 8) = ⟨Oc.getN s (a1 : Int) 2, Oc.getN s (a3 : Int) 2, Oc.getN s (a5 : Int) 4⟩ from by rw [← ha1, ha3, ha5]; rfl)
            generalize Oc.getN s (a1 : Int) 2 = x1 at C1 b1 EG
            generalize Oc.getN s (a3 : Int) 2 = x2 at C3 b3 EG
            generalize Oc.getN s (a5 : Int) 4 = x3 at C5 b5 EG
            generalize Oc.okB s (a1 : Int) 2 = t1 at C1
            generalize Oc.okB s (a3 : Int) 2 = t3 at C3
            generalize Oc.okB s (a5 : Int) 4 = t5 at C5
            have u1 : IntKind.u16.wrap x1 = x1 := by rw [IntWalk.u16_in _ (by omega)]
            have u2 : IntKind.u16.wrap x2 = x2 := by rw [IntWalk.u16_in _ (by omega)]
            have u3 : IntKind.u32.wrap x3 = x3 := by rw [IntWalk.u32_in _ (by omega)]
            have hat := gtL_at (s := s) (k := k) (by rw [HGN.out]; exact hlt)
            have TS := Lib.hid (show (gtL s).take (k + 1) = (gtL s).take k ++ [⟨x1, x2, x3⟩] from by rw [List.take_add_one, hat, EG.out]; rfl)
            have ANY := Lib.hid (fun h : highB ⟨x1, x2, x3⟩ = true => any_high hat (by rw [EG.out]; exact h))
            clear hat ha1 ha3 ha5
            go_wp2_with fail
            refine (C1.out _).mono ?_
            rintro e wz ⟨rfl, rfl⟩
            go_wp2_with fail
            refine (C3.out _).mono ?_
            rintro e wz ⟨rfl, rfl⟩
            go_wp2_with fail
            refine (C5.out _).mono ?_
            rintro e wz ⟨rfl, rfl⟩
            cases hq : highB ⟨x1, x2, x3⟩ with
            | true =>
              have h6 : (1000000 : Int) < x3 := by simpa [highB] using hq
              have E := Lib.hid (gt_high HSH.out (ANY.out hq))
              clear hq
              go_wp2_with fail
              go_ret
              exact ⟨_, rfl, by rw [E.out.2]; exact Brs.nil _ _ _, BW.out⟩
            | false =>
              have h6 : ¬ (1000000 : Int) < x3 := by simpa [highB] using hq
              have HQ := Lib.hid hq
              clear hq
              go_wp2_with (at_builtin; refine wpList_append_own _ rfl _ _ 50 rfl w.heap.size 101 i0 _ 3 8 Tryz.underlying50 hi0 y0 y1 y2 rfl (by decide) _ _ _ rfl (OW.out.alloc _) ⟨wr.heap.size, 0, none⟩ 1 1 [.int .u16 x1, .int .u16 x2, .int .u32 x3] rfl rfl (three_new _ _ _ _ _) (by intro u hu; simp at hu; rcases hu with rfl | rfl | rfl <;> rfl) (by unfold maxLen; omega) (by omega) (by have := BW.out.size; simp; omega) ?_; intro v' w9 hown' hgrow _; have HOW := Lib.hid hown'; have HGR := Lib.hid hgrow; clear hown' hgrow)
              go_roundg (f - (k + 1))
              case measure => omega
              case rel =>
                refine ⟨k + 1, _, by omega, by omega, by go_num, rfl, by rw [TS.out, brsC_snoc]; exact HOW.out, fun j hj => ?_, (BW.out.alloc BW.out.size _).grown HGR.out (by have := BW.out.size; simp; omega) (lk_own_block OW.out)⟩
                by_cases e : j = k
                · subst e; rw [EG.out]; exact HQ.out
                · exact A0.out j (by omega)
          · have k1 : ¬ (k : Int) < (f : Int) := by omega
            obtain rfl : k = f := by omega
            have E := Lib.hid (gt_yes HSH.out (any_low fun j y hy => by obtain ⟨rfl, hj⟩ := gtL_get hy; exact A0.out j (by have := HGN.out; omega)))
            have BS := Lib.hid (show Brs wr w.heap.size wr.heap.size v (gtL s) from own_brs (by
              have h := OW.out
              rw [List.take_of_length_le (by rw [gtL_length, HGN.out]; exact Nat.le_refl _)] at h
              rw [gtL_length, HGN.out]
              exact h))
            go_wp2_with fail
            go_ret
            exact ⟨v, rfl, by rw [E.out.2]; exact BS.out, BW.out⟩
    · have c1 : ((f : Int) != (n : Int)) = true := by simp; omega
      have hsh : shB s = false := by
        unfold shB gtN
        rw [hfb]
        simp
        omega
      have E := Lib.hid (gt_no hsh)
      clear hc hn hz hm hfb hsh hs hfn
      rcases hsel with q1 | ⟨q1, q2⟩ | ⟨q1, q2, q3⟩
      all_goals
        go_enter Tryz.func50, Tryz.ntmps50
        go_wp2_with fail
        go_ret
        exact ⟨_, rfl, by rw [E.out.2]; exact Brs.nil _ _ _, Below.refl _ _⟩
  · have hsh : shB s = false := by
      unfold shB
      simp
      omega
    have E := Lib.hid (gt_no hsh)
    have q1 : ((s.size : Int) != 9) = true := by simp; omega
    have q2 : ((s.size : Int) != 17) = true := by simp; omega
    have q3 : ((s.size : Int) != 25) = true := by simp; omega
    clear hc hsh hs
    go_enter Tryz.func50, Tryz.ntmps50
    go_wp2_with fail
    go_ret
    exact ⟨_, rfl, by rw [E.out.2]; exact Brs.nil _ _ _, Below.refl _ _⟩

end Go.Proofs.YtjclklppnkoehaaGreatDoor
