/-
  The program's All: the coins in the order of their points.
-/
import Derived.Test.YtdchbeomlfancaaRng
import Derived.Deep.LoopGhost
namespace Go.Proofs.Ytdchbeomlfancaa
open Go.RowKit Go.ChangeMaps Go.Sort Go.Lib

theorem info55 : (Try.prog.info? 55).map (fun i => (i.zero, i.size, i.bytes)) = some (some (.agg #[.string ⟨#[]⟩, .int .u32 0, .int .i64 0, .string ⟨#[]⟩, .int .i64 0]), 5, 56) := by kernel_rfl
theorem info45 : (Try.prog.info? 45).map (fun i => (i.zero, i.size, i.bytes)) = some (some (.agg #[.string ⟨#[]⟩, .int .u32 0, .int .i64 0, .string ⟨#[]⟩, .int .i64 0]), 5, 56) := by kernel_rfl
theorem info_parts' {t : TypeId} {z : Value} {size bytes : Nat} (h : (Try.prog.info? t).map (fun i => (i.zero, i.size, i.bytes)) = some (some z, size, bytes)) : ∃ i, Try.prog.info? t = some i ∧ i.zero = some z ∧ i.size = size ∧ i.bytes = bytes := by
  obtain ⟨i, hi, h⟩ := Option.map_eq_some_iff.1 h
  injection h with h1 h2
  injection h2 with h2 h3
  exact ⟨i, hi, h1, h2, h3⟩
theorem own_form {w : World} {base : Nat} {e : TypeId} {size n : Nat} {v : Value} {xs : List Value} (h : w.ownsRow base e size v n xs) : ∃ A c, v = .slice A n c := by
  rcases h.2 with ⟨rfl, rfl⟩ | ⟨g, cap, cur, rfl, _⟩
  · exact ⟨_, _, rfl⟩
  · exact ⟨_, _, rfl⟩
/-- Five cells laid for an append. -/
theorem five_new (w : World) (xs : List Value) (t : TypeId) (n : Nat) (hn : n = w.heap.size) : ∀ j u, xs[j]? = some u → (w.alloc (.cells xs.toArray t)).cell? ((⟨n, 0, none⟩ : Addr).add j) = some u := by
  subst hn
  intro j u h
  simp only [Addr.add_lit, Nat.zero_add]
  rw [cell_of_block (heap_alloc_new w _)]
  simpa using h

theorem own_five {w : World} {base n : Nat} {e : TypeId} {v : Value} {xs : List EnD} (h : w.ownsRow base e 5 v n (cellsE xs)) : n = xs.length := by
  have := h.1
  rw [cellsE_len] at this
  omega

theorem own_keep {w w' : World} {base g cap n size : Nat} {e : TypeId} {xs : List Value} (h : w.ownsRow base e size (.slice (some ⟨g, 0, none⟩) n cap) n xs) (hk : w'.heap[g]? = w.heap[g]?) : w'.ownsRow base e size (.slice (some ⟨g, 0, none⟩) n cap) n xs := by
  obtain ⟨h1, h2⟩ := h
  refine ⟨h1, ?_⟩
  rcases h2 with ⟨h2, _⟩ | ⟨g', cap', cur, hv, hb, hh, r⟩
  · cases h2
  · have hv' := hv
    injection hv' with e1
    injection e1 with e1
    injection e1 with e1
    subst e1
    exact .inr ⟨_, cap', cur, hv, hb, hk.trans hh, r⟩
theorem own_lt {w : World} {base g cap n size : Nat} {e : TypeId} {xs : List Value} (h : w.ownsRow base e size (.slice (some ⟨g, 0, none⟩) n cap) n xs) : base ≤ g ∧ g < w.heap.size := by
  rcases h.2 with ⟨h2, _⟩ | ⟨g', cap', cur, hv, hb, hh, r⟩
  · cases h2
  · injection hv with e1
    injection e1 with e1
    injection e1 with e1
    subst e1
    exact ⟨hb, lt_of_heap hh⟩

set_option maxHeartbeats 2000000 in
theorem all_any (a b : Nat) (l : List EnD) (w : World) (h : SetIs w a b l) (hl : l.length ≤ 1000) :
    Calls Try.prog 18 #[.pointer (some ⟨a, 0, none⟩)] w fun e w' => ∃ v, e = .returned v ∧ Ents w' w.heap.size w'.heap.size v l ∧ Below w.heap.size w w' := by
  have la := h.lta
  have lb := h.ltb
  have c0 := h.cell0
  obtain ⟨es, clock, hb, hlen⟩ := h.map.len
  have hn := run_len_map (P := Try.prog) w 60 3 b es clock (by kernel_rfl) hb
  rw [hlen] at hn
  obtain ⟨i0, hi, y0, y1, y2⟩ := info_parts' info55
  obtain ⟨n, hln⟩ : ∃ n, n = l.length := ⟨_, rfl⟩
  rw [← hln] at hn hl
  have hmk := run_make (P := Try.prog) w 53 55 i0 _ Try.underlying53 hi y0 .i64 .i64 0 (n : Int) (Int.le_refl _) (by omega) (by rw [y2]; omega) (by omega)
  rw [y1] at hmk
  simp only [Int.toNat_zero, Int.toNat_natCast] at hmk
  obtain ⟨w1, hw1⟩ : ∃ w1, w1 = w.alloc (.cells (madeCells (Value.agg #[.string ⟨#[]⟩, .int .u32 0, .int .i64 0, .string ⟨#[]⟩, .int .i64 0]).cells (n * 5)) 55) := ⟨_, rfl⟩
  rw [← hw1] at hmk
  have hz1 : w1.heap.size = w.heap.size + 1 := by rw [hw1]; simp
  have hb1 : Below w.heap.size w w1 := by rw [hw1]; exact (Below.refl _ _).alloc (Nat.le_refl _) _
  have O1 := Lib.hid (show w1.ownsRow w.heap.size 55 5 (.slice (some ⟨w.heap.size, 0, none⟩) 0 n) 0 (cellsE []) from by
    rw [hw1]
    exact World.ownsRow_made w _ n (Nat.le_refl _) (by unfold maxLen; omega) (size_madeCells _ _))
  have S1 := h.below hb1 la lb
  have c1 := S1.cell0
  obtain ⟨w2, hrg, R2, hb2, hz2⟩ := S1.map.range
  have HR2 := Lib.hid R2
  have HB2 := Lib.hid (below_next hb1 (by omega) hb2)
  have O2 := Lib.hid (show w2.ownsRow w.heap.size 55 5 (.slice (some ⟨w.heap.size, 0, none⟩) 0 n) 0 (cellsE []) from by
    have : OwnAt w1 w.heap.size w1.heap.size 55 5 (.slice (some ⟨w.heap.size, 0, none⟩) 0 n) 0 (cellsE []) := OwnAt.of_own O1.out
    exact (this.keep (StayE.of_below hb2 (Nat.le_refl _)) hb2.size).1)
  have HS := Lib.hid h
  have HL := Lib.hid hln
  rw [hz1] at hrg HR2
  have z2 : w.heap.size + 2 = w2.heap.size := by omega
  clear h hb hlen hw1 hb1 S1 R2 hb2 hz2 hln
  go_enter Try.func18, Try.ntmps18
  go_wp2_with fail
  go_loopg [3] n (fun gg v wr => ∃ (xs : List EnD) (cnt g cap : Nat), v = .slice (some ⟨g, 0, none⟩) xs.length cap ∧ cnt ≤ gg ∧ xs.length + cnt = n ∧ w2.heap.size ≤ wr.heap.size ∧ Hid (Rng wr b (w.heap.size + 1) l xs cnt) ∧ Hid (wr.ownsRow w.heap.size 55 5 (.slice (some ⟨g, 0, none⟩) xs.length cap) xs.length (cellsE xs)) ∧ Hid (RowKit.Below w.heap.size w wr))
  case atStart => exact ⟨[], n, w.heap.size, n, rfl, Nat.le_refl _, by simp, Nat.le_refl _, by rw [HL.out]; exact HR2, O2, HB2⟩
  case round =>
    obtain ⟨xs, cnt, g, cap, rfl, h1, h2, h4, HR, HO, HB⟩ := hrel
    have gl := own_lt HO.out
    rcases HR.out.next with ⟨hnx, hperm⟩ | ⟨x, wn, cnt', hnx, hen, R', hlt, hg, hsz⟩
    · have hlx : xs.length = l.length := hperm.length_eq
      obtain ⟨m, hm⟩ : ∃ m, m = xs.length := ⟨_, rfl⟩
      have SC := Lib.hid (sort_any g 0 cap xs.toArray wr (own_holds HO.out) gl.2 (by simp; omega))
      have HP := Lib.hid hperm
      simp only [List.size_toArray] at SC
      rw [← hm] at SC ⊢
      have HM := Lib.hid hm
      have HLX := Lib.hid hlx
      clear hperm hlx HR hm
      go_wp2_with fail
      refine SC.out.mono ?_
      rintro e w' ⟨rfl, d', nn, os, q1, q2, rfl⟩
      rw [HM.out] at q1 q2
      have hd := sorted_is (l := l) HS.out.good.srt (d := xs.toArray) (d' := d') (by simpa using HP.out) (by simpa using q1) (by simpa using q2)
      have hs' : d'.size = xs.toArray.size := by have := q1.1; simpa using this
      have hh := holdsK_sortWorldK_c encE 5 wr g 0 xs.toArray d' nn os (own_holds HO.out) gl.2 hs'
      have hbb := sort_below (B := w.heap.size) (g := g) (n := nn) (d := d') (os := os) (w := wr) gl.1 (by omega)
      have hsz := size_sortWorldK_c encE 5 wr g 0 nn d' os
      have hcap : xs.length ≤ cap := by
        rcases HO.out.2 with ⟨h0, _⟩ | ⟨g', cap', cur, hv, _, _, hn, _⟩
        · cases h0
        · injection hv with e1 e2 e3
          omega
      generalize sortWorldK encE 5 wr g 0 nn d' os = W9 at hh hbb hsz
      go_wp2_with fail
      go_ret
      refine ⟨.slice (some ⟨g, 0, none⟩) m cap, rfl, ?_, HB.out.trans hbb⟩
      refine ⟨_, cap, by rw [HM.out, HLX.out], by rw [← HLX.out]; exact hcap, .inr ⟨g, 0, rfl, gl.1, by omega, fun k x hx => ?_⟩⟩
      exact holds_at hh (by rw [hd]; exact hx)
    · have hbel : RowKit.Below (w.heap.size + 1) wr wn := ⟨hg.os, hg.tape, hg.output, hg.size, fun k hk => hg.block k (by omega) (by simp; omega)⟩
      have hgn : g ≠ w.heap.size + 1 := by
        have := HR.out.far HO.out
        simp [Value.ownBlock] at this
        omega
      have HOW := Lib.hid (own_keep HO.out (hg.block g gl.2 (by simp; omega)))
      have HRN := Lib.hid R'
      have HBN := Lib.hid (show RowKit.Below w.heap.size w wn from HB.out.trans (hbel.mono (by omega)))
      obtain ⟨m, hm⟩ : ∃ m, m = xs.length := ⟨_, rfl⟩
      rw [← hm] at HOW ⊢
      have m1 : m ≤ 1000 := by omega
      have HM := Lib.hid hm
      have z9 : w.heap.size < wn.heap.size := by omega
      clear hg hbel R' hm HR HO HB
      have hbytes : (m + 1) * 56 ≤ 140737488355328 := by omega
      have hmax : m + 1 ≤ maxLen := by unfold maxLen; omega
      go_wp2_with (at_builtin; refine wpList_append_lies _ rfl _ _ 53 rfl w.heap.size 55 i0 _ 5 56 Try.underlying53 hi y0 y1 y2 rfl (by decide) _ _ _ rfl (((HOW.out.alloc _).alloc _).alloc _) ⟨wr.heap.size + 1 + 1, 0, none⟩ 1 1 (encE x) rfl rfl (five_new _ _ _ _ (by simp [hsz])) (encE_one x) (by decide) hmax hbytes (by simp; omega) _ rfl ?_; intro g' cap' w9 hown' hgrow hat hlt')
      have hgrow' : World.grownBy (((wn.alloc (.cells #[.string x.id, .int .u32 x.ix] 28)).alloc (.cells #[.int .i64 x.val, .string x.scr, .int .i64 x.ht] 35)).alloc (.cells #[.string x.id, .int .u32 x.ix, .int .i64 x.val, .string x.scr, .int .i64 x.ht] 55)) w9 (some g) := hgrow
      obtain ⟨W3, hW3⟩ : ∃ W3, W3 = ((wn.alloc (.cells #[.string x.id, .int .u32 x.ix] 28)).alloc (.cells #[.int .i64 x.val, .string x.scr, .int .i64 x.ht] 35)).alloc (.cells #[.string x.id, .int .u32 x.ix, .int .i64 x.val, .string x.scr, .int .i64 x.ht] 55) := ⟨_, rfl⟩
      rw [← hW3] at hgrow'
      have b3 : RowKit.Below wn.heap.size wn W3 := by rw [hW3]; exact (((RowKit.Below.refl _ _).alloc (Nat.le_refl _) _).alloc (by simp) _).alloc (by simp; omega) _
      have z3 : W3.heap.size = wn.heap.size + 3 := by rw [hW3]; simp
      have HO9 := Lib.hid hown'
      have HG9 := Lib.hid hgrow'
      have HB3 := Lib.hid b3
      clear hgrow hgrow' hat hown' hW3 b3
      go_roundg cnt'
      case measure => omega
      case rel =>
        have hm := HM.out
        have b3 := HB3.out
        have hg := HG9.out
        have lb9 : b < wn.heap.size := by omega
        have lr9 := HRN.out.ltr
        refine ⟨xs ++ [x], cnt', g', cap', by simp [hm], Nat.le_refl _, by rw [HL.out]; exact xs_len HRN.out, by have := hg.size; omega, ?_, ?_, ?_⟩
        · exact HRN.out.keep ((hg.block b (by omega) (by simp; omega)).trans (b3.block b lb9)) ((hg.block _ (by omega) (by simp; omega)).trans (b3.block _ lr9))
        · have := HO9.out
          rw [← cellsE_snoc, hm] at this
          rw [show (xs ++ [x]).length = xs.length + 1 from by simp]
          exact this
        · refine (HBN.out.trans (b3.mono (by omega))).trans ?_
          exact ⟨hg.os, hg.tape, hg.output, hg.size, fun k hk => hg.block k (by omega) (by simp; omega)⟩

end Go.Proofs.Ytdchbeomlfancaa
