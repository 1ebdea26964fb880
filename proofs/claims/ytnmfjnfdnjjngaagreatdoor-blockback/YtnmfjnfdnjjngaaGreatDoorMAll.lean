/-
  The program's All: the coins in the order of their points.
  The document's Find, Total and Take over a list of coins.
-/
import Derived.Test.YtnmfjnfdnjjngaaGreatDoorMLay
import Derived.Deep.LoopGhost
import Derived.BigQuiet

namespace Go.Proofs.YtnmfjnfdnjjngaaGreatDoor.Co
open Go.RowKit Go.ChangeMaps Go.Sort Go.Lib
set_option maxRecDepth 100000

theorem info55 : (Tryz.prog.info? 66).map (fun i => (i.zero, i.size, i.bytes)) = some (some (.agg #[.string ⟨#[]⟩, .int .u32 0, .int .i64 0, .string ⟨#[]⟩, .int .i64 0]), 5, 56) := by kernel_rfl
theorem info45 : (Tryz.prog.info? 98).map (fun i => (i.zero, i.size, i.bytes)) = some (some (.agg #[.string ⟨#[]⟩, .int .u32 0, .int .i64 0, .string ⟨#[]⟩, .int .i64 0]), 5, 56) := by kernel_rfl
theorem info_parts' {t : TypeId} {z : Value} {size bytes : Nat} (h : (Tryz.prog.info? t).map (fun i => (i.zero, i.size, i.bytes)) = some (some z, size, bytes)) : ∃ i, Tryz.prog.info? t = some i ∧ i.zero = some z ∧ i.size = size ∧ i.bytes = bytes := by
  obtain ⟨i, hi, h⟩ := Option.map_eq_some_iff.1 h
  injection h with h1 h2
  injection h2 with h2 h3
  exact ⟨i, hi, h1, h2, h3⟩
theorem own_form {w : World} {base : Nat} {e : TypeId} {size n : Nat} {v : Value} {xs : List Value} (h : w.ownsRow base e size v n xs) : ∃ A c, v = .slice A n c := by
  rcases h.2 with ⟨rfl, rfl⟩ | ⟨g, cap, cur, rfl, _⟩
  · exact ⟨_, _, rfl⟩
  · exact ⟨_, _, rfl⟩
/-- Five cells laid for an append. -/
theorem five_new (w : World) (xs : List Value) (t : TypeId) (n : Nat) (hn : n = w.heap.size) : ∀ j u, xs[j]? = some u → (w.alloc (.cells xs.toArray t)).cell? ((⟨n, 0, none⟩ : Addr).add j) = some u := by
  subst hn
  intro j u h
  simp only [Addr.add_lit, Nat.zero_add]
  rw [cell_of_block (heap_alloc_new w _)]
  simpa using h

theorem own_five {w : World} {base n : Nat} {e : TypeId} {v : Value} {xs : List EnD} (h : w.ownsRow base e 5 v n (cellsE xs)) : n = xs.length := by
  have := h.1
  rw [cellsE_len] at this
  omega

theorem own_keep {w w' : World} {base g cap n size : Nat} {e : TypeId} {xs : List Value} (h : w.ownsRow base e size (.slice (some ⟨g, 0, none⟩) n cap) n xs) (hk : w'.heap[g]? = w.heap[g]?) : w'.ownsRow base e size (.slice (some ⟨g, 0, none⟩) n cap) n xs := by
  obtain ⟨h1, h2⟩ := h
  refine ⟨h1, ?_⟩
  rcases h2 with ⟨h2, _⟩ | ⟨g', cap', cur, hv, hb, hh, r⟩
  · cases h2
  · have hv' := hv
    injection hv' with e1
    injection e1 with e1
    injection e1 with e1
    subst e1
    exact .inr ⟨_, cap', cur, hv, hb, hk.trans hh, r⟩
theorem own_lt {w : World} {base g cap n size : Nat} {e : TypeId} {xs : List Value} (h : w.ownsRow base e size (.slice (some ⟨g, 0, none⟩) n cap) n xs) : base ≤ g ∧ g < w.heap.size := by
  rcases h.2 with ⟨h2, _⟩ | ⟨g', cap', cur, hv, hb, hh, r⟩
  · cases h2
  · injection hv with e1
    injection e1 with e1
    injection e1 with e1
    subst e1
    exact ⟨hb, lt_of_heap hh⟩

set_option maxHeartbeats 2000000 in
theorem all_any (a b : Nat) (l : List EnD) (w : World) (h : SetIs w a b l) (hl : l.length ≤ 1000) :
    Calls Tryz.prog 24 #[.pointer (some ⟨a, 0, none⟩)] w fun e w' => ∃ v, e = .returned v ∧ Ents w' w.heap.size w'.heap.size v l ∧ Below w.heap.size w w' := by
  have la := h.lta
  have lb := h.ltb
  have c0 := h.cell0
  obtain ⟨es, clock, hb, hlen⟩ := h.map.len
  have hn := run_len_map (P := Tryz.prog) w 76 3 b es clock (by kernel_rfl) hb
  rw [hlen] at hn
  obtain ⟨i0, hi, y0, y1, y2⟩ := info_parts' info55
  obtain ⟨n, hln⟩ : ∃ n, n = l.length := ⟨_, rfl⟩
  rw [← hln] at hn hl
  have hmk := run_make (P := Tryz.prog) w 29 66 i0 _ Tryz.underlying29 hi y0 .i64 .i64 0 (n : Int) (Int.le_refl _) (by omega) (by rw [y2]; omega) (by omega)
  rw [y1] at hmk
  simp only [Int.toNat_zero, Int.toNat_natCast] at hmk
  obtain ⟨w1, hw1⟩ : ∃ w1, w1 = w.alloc (.cells (madeCells (Value.agg #[.string ⟨#[]⟩, .int .u32 0, .int .i64 0, .string ⟨#[]⟩, .int .i64 0]).cells (n * 5)) 66) := ⟨_, rfl⟩
  rw [← hw1] at hmk
  have hz1 : w1.heap.size = w.heap.size + 1 := by rw [hw1]; simp
  have hb1 : Below w.heap.size w w1 := by rw [hw1]; exact (Below.refl _ _).alloc (Nat.le_refl _) _
  have O1 := Lib.hid (show w1.ownsRow w.heap.size 66 5 (.slice (some ⟨w.heap.size, 0, none⟩) 0 n) 0 (cellsE []) from by
    rw [hw1]
    exact World.ownsRow_made w _ n (Nat.le_refl _) (by unfold maxLen; omega) (size_madeCells _ _))
  have S1 := h.below hb1 la lb
  have c1 := S1.cell0
  obtain ⟨w2, hrg, R2, hb2, hz2⟩ := S1.map.range
  have HR2 := Lib.hid R2
  have HB2 := Lib.hid (below_next hb1 (by omega) hb2)
  have O2 := Lib.hid (show w2.ownsRow w.heap.size 66 5 (.slice (some ⟨w.heap.size, 0, none⟩) 0 n) 0 (cellsE []) from by
    have : OwnAt w1 w.heap.size w1.heap.size 66 5 (.slice (some ⟨w.heap.size, 0, none⟩) 0 n) 0 (cellsE []) := OwnAt.of_own O1.out
    exact (this.keep (StayE.of_below hb2 (Nat.le_refl _)) hb2.size).1)
  have HS := Lib.hid h
  have HL := Lib.hid hln
  rw [hz1] at hrg HR2
  have z2 : w.heap.size + 2 = w2.heap.size := by omega
  clear h hb hlen hw1 hb1 S1 R2 hb2 hz2 hln
  go_enter Tryz.func24, Tryz.ntmps24
  go_wp2_with fail
  go_loopg [3] n (fun gg v wr => ∃ (xs : List EnD) (cnt g cap : Nat), v = .slice (some ⟨g, 0, none⟩) xs.length cap ∧ cnt ≤ gg ∧ xs.length + cnt = n ∧ w2.heap.size ≤ wr.heap.size ∧ Hid (Rng wr b (w.heap.size + 1) l xs cnt) ∧ Hid (wr.ownsRow w.heap.size 66 5 (.slice (some ⟨g, 0, none⟩) xs.length cap) xs.length (cellsE xs)) ∧ Hid (RowKit.Below w.heap.size w wr))
  case atStart => exact ⟨[], n, w.heap.size, n, rfl, Nat.le_refl _, by simp, Nat.le_refl _, by rw [HL.out]; exact HR2, O2, HB2⟩
  case round =>
    obtain ⟨xs, cnt, g, cap, rfl, h1, h2, h4, HR, HO, HB⟩ := hrel
    have gl := own_lt HO.out
    rcases HR.out.next with ⟨hnx, hperm⟩ | ⟨x, wn, cnt', hnx, hen, R', hlt, hg, hsz⟩
    · have hlx : xs.length = l.length := hperm.length_eq
      obtain ⟨m, hm⟩ : ∃ m, m = xs.length := ⟨_, rfl⟩
      have SC := Lib.hid (sort_any g 0 cap xs.toArray wr (own_holds HO.out) gl.2 (by simp; omega))
      have HP := Lib.hid hperm
      simp only [List.size_toArray] at SC
      rw [← hm] at SC ⊢
      have HM := Lib.hid hm
      have HLX := Lib.hid hlx
      clear hperm hlx HR hm
      go_wp2_with fail
      refine SC.out.mono ?_
      rintro e w' ⟨rfl, d', nn, os, q1, q2, rfl⟩
      rw [HM.out] at q1 q2
      have hd := sorted_is (l := l) HS.out.good.srt (d := xs.toArray) (d' := d') (by simpa using HP.out) (by simpa using q1) (by simpa using q2)
      have hs' : d'.size = xs.toArray.size := by have := q1.1; simpa using this
      have hh := holdsK_sortWorldK_c encE 5 wr g 0 xs.toArray d' nn os (own_holds HO.out) gl.2 hs'
      have hbb := sort_below (B := w.heap.size) (g := g) (n := nn) (d := d') (os := os) (w := wr) gl.1 (by omega)
      have hsz := size_sortWorldK_c encE 5 wr g 0 nn d' os
      have hcap : xs.length ≤ cap := by
        rcases HO.out.2 with ⟨h0, _⟩ | ⟨g', cap', cur, hv, _, _, hn, _⟩
        · cases h0
        · injection hv with e1 e2 e3
          omega
      generalize sortWorldK encE 5 wr g 0 nn d' os = W9 at hh hbb hsz
      go_wp2_with fail
      go_ret
      refine ⟨.slice (some ⟨g, 0, none⟩) m cap, rfl, ?_, HB.out.trans hbb⟩
      refine ⟨_, cap, by rw [HM.out, HLX.out], by rw [← HLX.out]; exact hcap, .inr ⟨g, 0, rfl, gl.1, by omega, fun k x hx => ?_⟩⟩
      exact holds_at hh (by rw [hd]; exact hx)
    · have hbel : RowKit.Below (w.heap.size + 1) wr wn := ⟨hg.os, hg.tape, hg.output, hg.size, fun k hk => hg.block k (by omega) (by simp; omega)⟩
      have hgn : g ≠ w.heap.size + 1 := by
        have := HR.out.far HO.out
        simp [Value.ownBlock] at this
        omega
      have HOW := Lib.hid (own_keep HO.out (hg.block g gl.2 (by simp; omega)))
      have HRN := Lib.hid R'
      have HBN := Lib.hid (show RowKit.Below w.heap.size w wn from HB.out.trans (hbel.mono (by omega)))
      obtain ⟨m, hm⟩ : ∃ m, m = xs.length := ⟨_, rfl⟩
      rw [← hm] at HOW ⊢
      have m1 : m ≤ 1000 := by omega
      have HM := Lib.hid hm
      have z9 : w.heap.size < wn.heap.size := by omega
      clear hg hbel R' hm HR HO HB
      have hbytes : (m + 1) * 56 ≤ 140737488355328 := by omega
      have hmax : m + 1 ≤ maxLen := by unfold maxLen; omega
      go_wp2_with (at_builtin; refine wpList_append_lies _ rfl _ _ 29 rfl w.heap.size 66 i0 _ 5 56 Tryz.underlying29 hi y0 y1 y2 rfl (by decide) _ _ _ rfl (((HOW.out.alloc _).alloc _).alloc _) ⟨wr.heap.size + 1 + 1, 0, none⟩ 1 1 (encE x) rfl rfl (five_new _ _ _ _ (by simp [hsz])) (encE_one x) (by decide) hmax hbytes (by simp; omega) _ rfl ?_; intro g' cap' w9 hown' hgrow hat hlt')
      have hgrow' : World.grownBy (((wn.alloc (.cells #[.string x.id, .int .u32 x.ix] 60)).alloc (.cells #[.int .i64 x.val, .string x.scr, .int .i64 x.ht] 64)).alloc (.cells #[.string x.id, .int .u32 x.ix, .int .i64 x.val, .string x.scr, .int .i64 x.ht] 66)) w9 (some g) := hgrow
      obtain ⟨W3, hW3⟩ : ∃ W3, W3 = ((wn.alloc (.cells #[.string x.id, .int .u32 x.ix] 60)).alloc (.cells #[.int .i64 x.val, .string x.scr, .int .i64 x.ht] 64)).alloc (.cells #[.string x.id, .int .u32 x.ix, .int .i64 x.val, .string x.scr, .int .i64 x.ht] 66) := ⟨_, rfl⟩
      rw [← hW3] at hgrow'
      have b3 : RowKit.Below wn.heap.size wn W3 := by rw [hW3]; exact (((RowKit.Below.refl _ _).alloc (Nat.le_refl _) _).alloc (by simp) _).alloc (by simp; omega) _
      have z3 : W3.heap.size = wn.heap.size + 3 := by rw [hW3]; simp
      have HO9 := Lib.hid hown'
      have HG9 := Lib.hid hgrow'
      have HB3 := Lib.hid b3
      clear hgrow hgrow' hat hown' hW3 b3
      go_roundg cnt'
      case measure => omega
      case rel =>
        have hm := HM.out
        have b3 := HB3.out
        have hg := HG9.out
        have lb9 : b < wn.heap.size := by omega
        have lr9 := HRN.out.ltr
        refine ⟨xs ++ [x], cnt', g', cap', by simp [hm], Nat.le_refl _, by rw [HL.out]; exact xs_len HRN.out, by have := hg.size; omega, ?_, ?_, ?_⟩
        · exact HRN.out.keep ((hg.block b (by omega) (by simp; omega)).trans (b3.block b lb9)) ((hg.block _ (by omega) (by simp; omega)).trans (b3.block _ lr9))
        · have := HO9.out
          rw [← cellsE_snoc, hm] at this
          rw [show (xs ++ [x]).length = xs.length + 1 from by simp]
          exact this
        · refine (HBN.out.trans (b3.mono (by omega))).trans ?_
          exact ⟨hg.os, hg.tape, hg.output, hg.size, fun k hk => hg.block k (by omega) (by simp; omega)⟩

end Go.Proofs.YtnmfjnfdnjjngaaGreatDoor.Co

namespace Go.Proofs.YtnmfjnfdnjjngaaGreatDoor.Co
open Go.RowKit
set_option maxRecDepth 100000

/-- A world in which all that lay in w lies as it did. -/
structure After (w : World) where
  val : World
  ok : Below w.heap.size w val
/-- A region that draws its order, reads what lay there, and whose callees leave that as it was: one walk of the text's order serves every order. -/
theorem wp_region_after {P : Program} {id : Nat} {Q : Exit → Act → World → Prop} {a : Act} {w : World} {l : List Oper} (hm : P.follows .mixedOrders = true) (hB : Region.lexB .any l.toArray = true)
    (h : wpQuiet P l.toArray (fun w' => ∃ x : After w, w' = x.val) (fun a' => ∀ w', (∃ x : After w, w' = x.val) → Q .normal a' w') l a) : (Code.region id l.toArray true).wp P Q a w :=
  wp_region_quiet (C := fun w' => ∃ x : After w, w' = x.val) hm hB ⟨⟨w.drew, (Below.refl _ w).drew⟩, rfl⟩ (by simpa using h)
theorem After.call {P : Program} {f : FuncId} {args : Array Value} {w : World} {v : Value} (x : After w) (h : Calls P f args x.val fun e w' => e = .returned v ∧ Below x.val.heap.size x.val w') : Calls P f args x.val fun e w'' => e = .returned v ∧ ∃ y : After w, w'' = y.val :=
  h.mono fun _ w' ⟨he, hb⟩ => ⟨he, ⟨w', below_next x.ok x.ok.size hb⟩, rfl⟩

/-- The first place at which p holds, or -1. -/
def idxOf {α : Type} (p : α → Bool) (xs : List α) : Int := match xs.findIdx? p with | some k => (k : Int) | none => -1
theorem idxOf_hit {α : Type} {p : α → Bool} {xs : List α} {k : Nat} {x : α} (hx : xs[k]? = some x) (hp : p x = true) (hb : ∀ (j : Nat) (y : α), j < k → xs[j]? = some y → p y = false) : idxOf p xs = k := by
  have h : xs.findIdx? p = some k := by
    rw [List.findIdx?_eq_some_iff_getElem]
    obtain ⟨hk, rfl⟩ := List.getElem?_eq_some_iff.1 hx
    exact ⟨hk, hp, fun j hj => by have := hb j xs[j] hj (List.getElem?_eq_getElem (by omega)); simp [this]⟩
  simp [idxOf, h]
theorem idxOf_miss {α : Type} {p : α → Bool} {xs : List α} (hb : ∀ (j : Nat) (y : α), xs[j]? = some y → p y = false) : idxOf p xs = -1 := by
  have h : xs.findIdx? p = none := by
    rw [List.findIdx?_eq_none_iff]
    intro y hy
    obtain ⟨j, hj⟩ := List.getElem?_of_mem hy
    exact hb j y hj
  simp [idxOf, h]
/-- Where a point is. -/
theorem idx_none {l : List EnD} {p : ByteArray} {i : Int} (h : hasB l p i = false) : idxOf (isB p i) l = -1 :=
  idxOf_miss fun j y hy => by
    have := List.any_eq_false.1 h y (List.mem_of_getElem? hy)
    simpa using this
theorem idx_some {l : List EnD} (hg : Srt l) {p : ByteArray} {i : Int} (h : hasB l p i = true) : ∃ k : Nat, idxOf (isB p i) l = k ∧ l[k]? = some (atE l p i) ∧ delL l p i = l.eraseIdx k := by
  obtain ⟨k, hk⟩ : ∃ k, l.findIdx? (isB p i) = some k := by
    cases hf : l.findIdx? (isB p i) with
    | some k => exact ⟨k, rfl⟩
    | none =>
      obtain ⟨x, hx, h1⟩ := List.any_eq_true.1 h
      rw [List.findIdx?_eq_none_iff] at hf
      rw [hf x hx] at h1
      cases h1
  obtain ⟨hlt, hp, hb⟩ := List.findIdx?_eq_some_iff_getElem.1 hk
  have hap := hg.apart
  obtain ⟨e1, e2⟩ := isB_iff.1 hp
  have hat : atE l p i = l[k] := by
    have := atE_some hap (List.getElem_mem hlt)
    rw [e1, e2] at this
    exact this
  refine ⟨k, by simp [idxOf, hk], by rw [hat]; exact List.getElem?_eq_getElem hlt, ?_⟩
  have hsame : ∀ j (hj : j < l.length), j ≠ k → isB p i l[j] = false := fun j hj hne => by
    rw [← e1, ← e2, isB_same]
    rcases Nat.lt_or_gt_of_ne hne with h1 | h1
    · exact List.pairwise_iff_getElem.1 hap j k hj hlt h1
    · rw [same_comm]
      exact List.pairwise_iff_getElem.1 hap k j hlt hj h1
  unfold delL
  rw [List.eraseIdx_eq_take_drop_succ]
  conv => lhs; rw [← List.take_append_drop k l, List.filter_append]
  congr 1
  · rw [List.filter_eq_self]
    intro x hx
    obtain ⟨j, hj, rfl⟩ := List.mem_take_iff_getElem.1 hx
    rw [hsame j (by omega) (by omega)]
    rfl
  · rw [List.drop_eq_getElem_cons hlt, List.filter_cons_of_neg (by rw [hp]; simp), List.filter_eq_self]
    intro x hx
    obtain ⟨j, hj, rfl⟩ := List.mem_drop_iff_getElem.1 hx
    rw [hsame _ (by omega) (by omega)]
    rfl

set_option maxHeartbeats 1000000 in
theorem rfind_any (A : Option Addr) (n c : Nat) (xs : List EnD) (p : ByteArray) (i : Int) (w : World) (lo hi : Nat) (hx : Ents w lo hi (.slice A n c) xs) (hhi : hi ≤ w.heap.size) (hl : xs.length ≤ 1000) :
    Calls Tryz.prog 36 #[.slice A n c, .agg #[.string p, .int .u32 i]] w fun e w' => e = .returned (.int .i64 (idxOf (isB p i) xs)) ∧ Below w.heap.size w w' := by
  obtain rfl : n = xs.length := by obtain ⟨_, _, hv, _⟩ := hx; injection hv
  have HX := Lib.hid hx
  obtain ⟨W, hW⟩ : ∃ W, W = w.alloc (.cells #[.string p, .int .u32 i] 60) := ⟨_, rfl⟩
  have hz : W.heap.size = w.heap.size + 1 := by rw [hW]; simp
  have HBW := Lib.hid (show Below w.heap.size w W from by rw [hW]; exact (Below.refl _ _).alloc (Nat.le_refl _) _)
  have hn : W.heap[w.heap.size]? = some (.cells #[.string p, .int .u32 i] 60) := by rw [hW]; exact heap_alloc_new _ _
  have p0 : W.cell? ⟨w.heap.size, 0, none⟩ = some (.string p) := cell_in (o := 0) hn rfl
  have p1 : W.cell? ⟨w.heap.size, 1, none⟩ = some (.int .u32 i) := cell_in (o := 1) hn rfl
  have HP := Lib.hid (And.intro p0 p1)
  have HW := Lib.hid hW
  clear hx hn hW p0 p1
  go_enter Tryz.func36, Tryz.ntmps36
  go_upto_region 1 with (fail)
  rw [show World.alloc w _ = W from HW.out.symm]
  go_wp2_with fail
  go_loopg [5, 6] xs.length (fun gg s5 _ wr => ∃ kk : Nat, kk ≤ xs.length ∧ xs.length - kk ≤ gg ∧ s5 = .int .i64 kk ∧ W.heap.size ≤ wr.heap.size ∧ Hid (Below W.heap.size W wr) ∧ Hid (∀ (j : Nat) (y : EnD), j < kk → xs[j]? = some y → isB p i y = false))
  case atStart => exact ⟨0, Nat.zero_le _, by omega, rfl, Nat.le_refl _, Below.refl _ W, fun j _ hj => absurd hj (Nat.not_lt_zero _)⟩
  case round =>
    obtain ⟨kk, hkk, hg, rfl, hzr, BW, A0⟩ := hrel
    by_cases hlt : kk < xs.length
    · have hltz : (kk : Int) < (xs.length : Int) := by omega
      have hd : decide (kk < xs.length) = true := decide_eq_true hlt
      obtain ⟨x, hxk⟩ : ∃ x, xs[kk]? = some x := ⟨_, List.getElem?_eq_getElem hlt⟩
      have BB := Lib.hid (HBW.out.trans (BW.out.mono (by omega)))
      obtain ⟨b, off, rfl, h1, h2, c0, c1, _, _, _⟩ := (HX.out.keep (Kept.of_below BB.out hhi)).at hxk
      have hbw : b < wr.heap.size := by omega
      have hpw : w.heap.size < wr.heap.size := by omega
      have hpl : w.heap.size < W.heap.size := by omega
      have q0 : ∀ y : After wr, y.val.cell? ⟨w.heap.size, 0, none⟩ = some (.string p) := fun y => (y.ok.cell (p := ⟨w.heap.size, 0, none⟩) hpw).trans ((BW.out.cell (p := ⟨w.heap.size, 0, none⟩) hpl).trans HP.out.1)
      have q1 : ∀ y : After wr, y.val.cell? ⟨w.heap.size, 1, none⟩ = some (.int .u32 i) := fun y => (y.ok.cell (p := ⟨w.heap.size, 1, none⟩) hpw).trans ((BW.out.cell (p := ⟨w.heap.size, 1, none⟩) hpl).trans HP.out.2)
      have q2 : ∀ y : After wr, y.val.cell? ⟨b, off + kk * 5, none⟩ = some (.string x.id) := fun y => (y.ok.cell (p := ⟨b, off + kk * 5, none⟩) hbw).trans c0
      have q3 : ∀ y : After wr, y.val.cell? ⟨b, off + kk * 5 + 1, none⟩ = some (.int .u32 x.ix) := fun y => (y.ok.cell (p := ⟨b, off + kk * 5 + 1, none⟩) hbw).trans c1
      have hne : Nonempty (After wr) := ⟨⟨wr, Below.refl _ _⟩⟩
      have CS := Lib.hid (fun y : After wr => rsame_any x.id x.ix p i y.val)
      have HXK := Lib.hid hxk
      obtain ⟨r, hr⟩ : ∃ r, r = ptB x.id x.ix p i := ⟨_, rfl⟩
      have HR := Lib.hid hr
      rw [← hr] at CS
      clear hxk hr c0 c1
      go_wp2_with fail
      refine wp_region_after (by kernel_rfl) (by kernel_rfl) ?_
      repeat (go_big_quiet_step ((go_at_call 67; exact After.call _ (CS.out _))))
      refine wpQuiet_nil ?_
      rintro _ ⟨y, rfl⟩
      have HY := Lib.hid y.ok
      generalize y.val = wy at HY
      cases r with
      | true =>
        go_wp2_with fail
        go_ret
        exact ⟨ret_int (by rw [idxOf_hit HXK.out HR.out.symm A0.out]), BB.out.trans (HY.out.mono (by have := BB.out.size; omega))⟩
      | false =>
        go_wp2_with fail
        go_roundg (xs.length - (kk + 1))
        case measure => omega
        case rel =>
          have hs := HY.out.size
          refine ⟨kk + 1, by omega, by omega, by go_num, by omega, BW.out.trans (HY.out.mono (by omega)), (show Hid _ from fun j z hj hz' => ?_)⟩
          by_cases e : j = kk
          · subst e
            rw [HXK.out] at hz'
            injection hz' with hz'
            subst hz'
            exact HR.out.symm
          · exact A0.out j z (by omega) hz'
    · have hltz : ¬ (kk : Int) < (xs.length : Int) := by omega
      have hd : decide (kk < xs.length) = false := decide_eq_false hlt
      go_wp2_with fail
      go_ret
      exact ⟨ret_int (by rw [idxOf_miss fun j y hy => A0.out j y (by have := (List.getElem?_eq_some_iff.1 hy).1; omega) hy]), HBW.out.trans (BW.out.mono (by omega))⟩

set_option maxHeartbeats 1000000 in
theorem rtotal_any (A : Option Addr) (n c : Nat) (xs : List EnD) (w : World) (lo hi : Nat) (hx : Ents w lo hi (.slice A n c) xs) (hp : ∀ x ∈ xs, 0 ≤ x.val) (hm : tot xs ≤ 2100000000000000) (hl : xs.length ≤ 1000) :
    Calls Tryz.prog 82 #[.slice A n c] w fun e w' => e = .returned (.int .i64 (tot xs)) ∧ w' = w := by
  obtain rfl : n = xs.length := by obtain ⟨_, _, hv, _⟩ := hx; injection hv
  have HX := Lib.hid hx
  have HT := Lib.hid (fun k => tot_take hp k)
  clear hx hp
  go_enter Tryz.func82, Tryz.ntmps82
  go_wp2_with fail
  go_loopg [3, 4] xs.length (fun gg s3 s4 wr => ∃ kk : Nat, kk ≤ xs.length ∧ xs.length - kk ≤ gg ∧ s4 = .int .i64 kk ∧ s3 = .int .i64 (tot (xs.take kk)) ∧ wr = w)
  case atStart => exact ⟨0, Nat.zero_le _, by omega, rfl, by simp [tot], rfl⟩
  case round =>
    obtain ⟨kk, hkk, hg, rfl, rfl, rfl⟩ := hrel
    by_cases hlt : kk < xs.length
    · have hltz : (kk : Int) < (xs.length : Int) := by omega
      have hd : decide (kk < xs.length) = true := decide_eq_true hlt
      obtain ⟨x, hxk⟩ : ∃ x, xs[kk]? = some x := ⟨_, List.getElem?_eq_getElem hlt⟩
      obtain ⟨b, off, rfl, h1, h2, _, _, c2, _, _⟩ := HX.out.at hxk
      have e1 : tot (xs.take (kk + 1)) = tot (xs.take kk) + x.val := by
        rw [List.take_add_one, hxk, tot_append]
        simp [tot]
      have hwr : IntKind.i64.wrap (tot (xs.take kk) + x.val) = tot (xs.take (kk + 1)) := by
        rw [← e1]
        have := HT.out (kk + 1)
        exact IntWalk.i64_in _ (by omega)
      clear hxk e1
      generalize tot (xs.take kk) = t0 at hwr ⊢
      obtain ⟨t1, ht1⟩ : ∃ t1, t1 = tot (xs.take (kk + 1)) := ⟨_, rfl⟩
      rw [← ht1] at hwr
      have HT1 := Lib.hid ht1
      clear ht1
      go_wp2_with fail
      go_roundg (xs.length - (kk + 1))
      case measure => omega
      case rel => exact ⟨kk + 1, by omega, by omega, by go_num, by rw [HT1.out], rfl⟩
    · have hltz : ¬ (kk : Int) < (xs.length : Int) := by omega
      have hd : decide (kk < xs.length) = false := decide_eq_false hlt
      obtain rfl : kk = xs.length := by omega
      go_wp2_with fail
      go_ret
      exact ⟨rfl, rfl⟩

end Go.Proofs.YtnmfjnfdnjjngaaGreatDoor.Co
