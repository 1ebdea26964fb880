/-
  The statements' own inner, and a block's transactions as the statements make them.
-/
import Derived.Test.YtnmfjnfdnjjngaaGreatDoorMMak
import Derived.Test.YtnmfjnfdnjjngaaGreatDoorMOne
import Derived.Test.YtnmfjnfdnjjngaaGreatDoorMErw
namespace Go.Proofs.YtnmfjnfdnjjngaaGreatDoor
open Go.RowKit Go.Extern
set_option maxRecDepth 100000

set_option maxHeartbeats 1000000 in
/-- errors.As of nil. -/
theorem as_nil (t : Addr) (w : World) : Calls Tryz.prog 35 #[.nilIface, .iface 97 (.pointer (some t))] w fun ev w' => ev = .returned (.bool false) ∧ w' = w := by
  go_enter Tryz.func35, Tryz.ntmps35
  go_wp2
  go_ret
  exact ⟨rfl, rfl⟩

/-- What inner answers, once errors.As has said no. -/
theorem inner_no (v : Value) (w : World) (h : ∀ w1 : World, w1 = w.alloc (.cells #[.pointer none] 92) → Calls Tryz.prog 35 #[v, .iface 97 (.pointer (some ⟨w.heap.size, 0, none⟩))] w1 fun ev w' => ev = .returned (.bool false) ∧ Hid (Below w.heap.size w w')) :
    Calls Tryz.prog 15 #[v] w fun e w' => e = .returned (.int .i64 (-1)) ∧ Below w.heap.size w w' := by
  obtain ⟨w1, hw1⟩ : ∃ w1, w1 = w.alloc (.cells #[.pointer none] 92) := ⟨_, rfl⟩
  have C := Lib.hid (h w1 hw1)
  have HW := Lib.hid hw1
  clear hw1 h
  go_enter Tryz.func15, Tryz.ntmps15
  go_upto_region 2 with (fail)
  rw [show World.alloc w _ = w1 from HW.out.symm]
  go_wp2_with fail
  refine C.out.mono ?_
  rintro e w2 ⟨rfl, hb2⟩
  go_wp2_with fail
  go_ret
  exact ⟨rfl, hb2.out⟩

set_option maxHeartbeats 1000000 in
/-- The place of the In of a fault within a block's error. -/
theorem inner_errw {lo : Nat} {w : World} {v : Value} {c a n : Int} (h : ErrW lo w v c a n) (hg : ErrDoor w) : Calls Tryz.prog 15 #[v] w fun e w' => e = .returned (.int .i64 n) ∧ Below w.heap.size w w' := by
  rcases h with ⟨_, _, rfl, rfl⟩ | ⟨_, _, rfl, rfl⟩ | ⟨hc, _, b, ve, rfl, _, h3, h4, h5, h7⟩
  · exact inner_no _ w fun w1 hw1 => (as_nil _ w1).mono fun ev w' ⟨he, hw⟩ => ⟨he, Lib.hid (by rw [hw, hw1]; exact (Below.refl _ _).alloc (Nat.le_refl _) _)⟩
  · refine inner_no _ w fun w1 hw1 => ?_
    have hz : w1.heap.size = w.heap.size + 1 := by rw [hw1]; simp
    have hb : Below w.heap.size w w1 := by rw [hw1]; exact (Below.refl _ _).alloc (Nat.le_refl _) _
    have hg1 := hg.below hb hg.lt
    have ht : w1.cell? ⟨w.heap.size, 0, none⟩ = some (.pointer none) := by rw [hw1]; simp
    exact (as_num c ⟨w.heap.size, 0, none⟩ _ w1 hg1 ht).mono fun ev w' ⟨he, hw⟩ => ⟨he, Lib.hid (by rw [hw]; exact ((hb.alloc (by omega) _).alloc (by simp; omega) _).alloc (by simp; omega) _)⟩
  · obtain ⟨w1, hw1⟩ : ∃ w1, w1 = w.alloc (.cells #[.pointer none] 92) := ⟨_, rfl⟩
    have hz : w1.heap.size = w.heap.size + 1 := by rw [hw1]; simp
    have hb : Below w.heap.size w w1 := by rw [hw1]; exact (Below.refl _ _).alloc (Nat.le_refl _) _
    have hg1 := hg.below hb hg.lt
    have ht : w1.cell? ⟨w.heap.size, 0, none⟩ = some (.pointer none) := by rw [hw1]; simp
    have hf : w1.frozen? ⟨w.heap.size, 0, none⟩ = false := by rw [hw1]; exact Lib.frozen_of_heap (heap_alloc_new w (.cells #[.pointer none] 92)) 0
    have C := Lib.hid (show Calls Tryz.prog 35 #[.iface 92 (.pointer (some ⟨b, 0, none⟩)), .iface 97 (.pointer (some ⟨w.heap.size, 0, none⟩))] w1 fun ev w' => ev = .returned (.bool true) ∧ w'.cell? ⟨w.heap.size, 0, none⟩ = some (.pointer (some ⟨b, 0, none⟩)) ∧ w'.cell? ⟨b, 1, none⟩ = some ve ∧ Hid (Below w.heap.size w w') from
      (as_fault ⟨b, 0, none⟩ ⟨w.heap.size, 0, none⟩ _ w1 hg1 ht hf).mono fun ev w' ⟨he, hw⟩ => by
        have hB : Below w.heap.size w w' := by rw [hw]; exact ((((hb.alloc (by omega) _).alloc (by simp; omega) _).alloc (by simp; omega) _).alloc (by simp; omega) _).setCell (by simp) _
        refine ⟨he, ?_, (World.cell?_of_block (w := w) (a := ⟨b, 1, none⟩) (hB.block b h3)).trans h5, Lib.hid hB⟩
        rw [hw]
        refine World.cell?_setCell_same _ _ _ (u := .pointer none) ?_
        rw [World.cell?_alloc_lt _ _ _ (by simp; omega), World.cell?_alloc_lt _ _ _ (by simp; omega), World.cell?_alloc_lt _ _ _ (by simp; omega), World.cell?_alloc_lt _ _ _ (by simp; omega)]
        exact ht)
    have HW := Lib.hid hw1
    have HV := Lib.hid h7
    have HG := Lib.hid hg
    clear hw1 hb hg1 ht hg hf h4 h5 h7
    go_enter Tryz.func15, Tryz.ntmps15
    go_upto_region 2 with (fail)
    rw [show World.alloc w _ = w1 from HW.out.symm]
    go_wp2_with fail
    refine C.out.mono ?_
    rintro e w2 ⟨rfl, c0, c1, hb2⟩
    have CP := Lib.hid (place_err (HV.out.below hb2.out) (HG.out.below hb2.out HG.out.lt))
    go_wp2_with fail
    refine CP.out.mono ?_
    rintro e w3 ⟨rfl, hb3⟩
    go_wp2_with fail
    go_ret
    exact ⟨rfl, below_next hb2.out hb2.out.size hb3⟩

/-! ### A list of transactions that is being built -/

structure PileT (w : World) (base : Nat) (v : Value) (ts : List TxD) (cells : List Value) : Prop where
  own : w.ownsRow base 51 4 v ts.length cells
  all : ∀ (j : Nat) (t : TxD), ts[j]? = some t → ∃ vi vo lo hi, cells[j * 4]? = some (.int .u32 t.ver) ∧ cells[j * 4 + 1]? = some vi ∧ cells[j * 4 + 2]? = some vo ∧ cells[j * 4 + 3]? = some (.int .u32 t.lock) ∧
    base ≤ lo ∧ hi ≤ w.heap.size ∧ TxAt w lo hi vi vo t ∧ ∀ g, v.ownBlock = some g → g < lo ∨ hi ≤ g
theorem PileT.nil (w : World) (base : Nat) : PileT w base (.slice none 0 0) [] [] := ⟨World.ownsRow_nil w base 51 4, fun j t h => by simp at h⟩
theorem PileT.below {w w' : World} {base : Nat} {v : Value} {ts : List TxD} {cells : List Value} (h : PileT w base v ts cells) (hb : Below w.heap.size w w') : PileT w' base v ts cells := by
  refine ⟨(OwnAt.keep (OwnAt.of_own h.own) (StayE.of_below hb (Nat.le_refl _)) hb.size).1, fun j t ht => ?_⟩
  obtain ⟨vi, vo, lo, hi, c0, c1, c2, c3, h1, h2, h3, h4⟩ := h.all j t ht
  exact ⟨vi, vo, lo, hi, c0, c1, c2, c3, h1, Nat.le_trans h2 hb.size, h3.keep (Kept.of_below hb h2), h4⟩
theorem PileT.push {w w1 : World} {base : Nat} {v v' : Value} {ts : List TxD} {cells : List Value} {t : TxD} {vi vo : Value} {lo hi : Nat} {o : Obj} (h : PileT w base v ts cells) (ht : TxAt w lo hi vi vo t) (hlo : base ≤ lo) (hhi : hi ≤ w.heap.size)
    (hne : ∀ g, v.ownBlock = some g → g < lo ∨ hi ≤ g) (hgrow : (w.alloc o).grownBy w1 v.ownBlock) (hown' : w1.ownsRow base 51 4 v' (ts.length + 1) (cells ++ [.int .u32 t.ver, vi, vo, .int .u32 t.lock]))
    (hat : ∀ g, v'.ownBlock = some g → v.ownBlock = some g ∨ w.heap.size ≤ g) : PileT w1 base v' (ts ++ [t]) (cells ++ [.int .u32 t.ver, vi, vo, .int .u32 t.lock]) := by
  have hlen : cells.length = ts.length * 4 := h.own.1
  have hs : w.heap.size + 1 ≤ w1.heap.size := by have := hgrow.size; simp at this; exact this
  have K : ∀ lo hi, hi ≤ w.heap.size → (∀ g, v.ownBlock = some g → g < lo ∨ hi ≤ g) → Kept lo hi w w1 := fun lo hi h2 h4 b hb1 hb2 =>
    (hgrow.block b (by simp; omega) (fun e => by have := h4 b e.symm; omega)).trans (Below.heap_alloc _ _ _ (by omega))
  have A : ∀ lo hi, hi ≤ w.heap.size → (∀ g, v.ownBlock = some g → g < lo ∨ hi ≤ g) → ∀ g, v'.ownBlock = some g → g < lo ∨ hi ≤ g := fun lo hi h2 h4 g hg => by
    rcases hat g hg with e | e
    · exact h4 g e
    · exact .inr (by omega)
  refine ⟨by rw [List.length_append]; exact hown', fun j y hy => ?_⟩
  by_cases hj : j < ts.length
  · rw [List.getElem?_append_left hj] at hy
    obtain ⟨vi', vo', lo', hi', c0, c1, c2, c3, h1, h2, h3, h4⟩ := h.all j y hy
    refine ⟨vi', vo', lo', hi', ?_, ?_, ?_, ?_, h1, by omega, h3.keep (K _ _ h2 h4), A _ _ h2 h4⟩
    · rw [List.getElem?_append_left (by omega)]; exact c0
    · rw [List.getElem?_append_left (by omega)]; exact c1
    · rw [List.getElem?_append_left (by omega)]; exact c2
    · rw [List.getElem?_append_left (by omega)]; exact c3
  · have hj2 : j = ts.length := by
      have := (List.getElem?_eq_some_iff.1 hy).1
      simp at this; omega
    subst hj2
    simp at hy
    subst hy
    refine ⟨vi, vo, lo, hi, ?_, ?_, ?_, ?_, hlo, by omega, ht.keep (K _ _ hhi hne), A _ _ hhi hne⟩
    · rw [List.getElem?_append_right (by omega), hlen]; simp
    · rw [List.getElem?_append_right (by omega), hlen]; simp
    · rw [List.getElem?_append_right (by omega), hlen]; simp
    · rw [List.getElem?_append_right (by omega), hlen]; simp
theorem PileT.txs {w : World} {base : Nat} {v : Value} {ts : List TxD} {cells : List Value} (h : PileT w base v ts cells) : Txs w base w.heap.size v ts := by
  rcases h.own.2 with ⟨rfl, h0⟩ | ⟨g, cap, cur, rfl, hb, hg, hn, hm, hs, htk⟩
  · have : ts = [] := List.eq_nil_of_length_eq_zero h0
    subst this
    exact Lst.nil
  · have hgl : g < w.heap.size := by
      rcases Nat.lt_or_ge g w.heap.size with hlt | hge
      · exact hlt
      · rw [Array.getElem?_eq_none hge] at hg; cases hg
    refine ⟨_, cap, rfl, hn, .inr ⟨g, 0, rfl, hb, hgl, fun k x hk => ?_⟩⟩
    obtain ⟨vi, vo, lo, hi, c0, c1, c2, c3, h1, h2, h3, h4⟩ := h.all k x hk
    have hc := h.own.cells (g := g) rfl
    have a0 := hc _ _ c0
    have a1 := hc _ _ c1
    have a2 := hc _ _ c2
    have a3 := hc _ _ c3
    simp only [Addr.add_lit, Nat.zero_add] at a0 a1 a2 a3
    rw [Nat.zero_add]
    exact ⟨a0, ⟨vi, vo, a1, a2, h3.wide h1 h2⟩, a3⟩

theorem info51 : (Tryz.prog.info? 51).map (fun i => (i.zero, i.size, i.bytes)) = some (some (.agg #[.int .u32 0, .slice none 0 0, .slice none 0 0, .int .u32 0]), 4, 64) := by kernel_rfl
theorem run_min_nat (c : Nat) (ts : Array TypeId) (t : TypeId) (x : Nat) (w : World) : (Builtin.min_ ts t #[.int .i64 (x : Int), .int .i64 (c : Int)]).run Tryz.prog w = .ok (.int .i64 (min x c : Nat)) w := by
  rw [run_min_int2 w ts t .i64 .i64 x c]
  rcases Nat.le_total x c with h | h
  · have h2 : ¬ ((c : Int) < (x : Int)) := by omega
    simp [h2, Nat.min_eq_left h]
  · by_cases he : x = c
    · subst he; simp
    · have h2 : (c : Int) < (x : Int) := by omega
      simp [h2, Nat.min_eq_right h]

/-- The list u doesn't lie in the row v's block. -/
def Off (v u : Value) (xs : List Co.EnD) : Prop := xs = [] ∨ ∀ a n c, u = .slice (some a) n c → v.ownBlock ≠ some a.block
theorem ents_stay {w w' : World} {lo hi : Nat} {v : Value} {xs : List Co.EnD} (h : Co.Ents w lo hi v xs) (hk : xs = [] ∨ ∀ a n c, v = .slice (some a) n c → lo ≤ a.block → a.block < hi → w'.heap[a.block]? = w.heap[a.block]?) : Co.Ents w' lo hi v xs := by
  obtain ⟨A, c, rfl, hc, h⟩ := h
  refine ⟨A, c, rfl, hc, ?_⟩
  rcases h with h | ⟨b, off, rfl, h1, h2, h3⟩
  · exact .inl h
  rcases hk with hk | hk
  · exact .inl hk
  · have e := fun i => World.cell?_of_block (w := w) (a := ⟨b, i, none⟩) (hk ⟨b, off, none⟩ _ _ rfl h1 h2)
    exact .inr ⟨b, off, rfl, h1, h2, fun k x hx => by
      obtain ⟨c0, c1, c2, c3, c4⟩ := h3 k x hx
      exact ⟨(e _).trans c0, (e _).trans c1, (e _).trans c2, (e _).trans c3, (e _).trans c4⟩⟩

/-- Behind One: the list that it hands back doesn't lie in the grown row's block. -/
theorem off_next {w w9 w10 : World} {lo hi : Nat} {vt vm v10 : Value} {m m' : List Co.EnD} {g' n' c' H : Nat} (he : Co.Ents w lo hi vm m) (ho : Off vt vm m) (hh : hi ≤ H) (hat : vt.ownBlock = some g' ∨ g' = H) (hlt : g' < w9.heap.size) (hp : Co.Prov vm w9.heap.size v10) (he' : Co.Ents w10 lo w10.heap.size v10 m') :
    Off (.slice (some ⟨g', 0, none⟩) n' c') v10 m' := by
  rcases hp with rfl | hp
  · obtain ⟨A, c, hv, hc, h⟩ := he
    obtain ⟨A', c2, hv', _, h'⟩ := he'
    subst hv
    injection hv' with _ hlen _
    rcases ho with rfl | ho
    · exact .inl (List.eq_nil_of_length_eq_zero hlen.symm)
    · rcases h with rfl | ⟨b, off, rfl, h1, h2, _⟩
      · exact .inl (List.eq_nil_of_length_eq_zero hlen.symm)
      · refine .inr fun a n c e => ?_
        injection e with e1
        injection e1 with e1
        subst e1
        intro hg
        simp [Value.ownBlock] at hg
        subst hg
        rcases hat with hat | hat
        · exact ho _ _ _ rfl hat
        · have : g' < hi := h2
          omega
  · refine .inr fun a n c e hg => ?_
    have := hp a n c e
    simp [Value.ownBlock] at hg
    omega

/-- What made answers. -/
def MdeEnd (w : World) (e : Ending) (w' : World) : Prop :=
  ∃ (v : Value) (ts : List TxD), e = .returned v ∧ Txs w' w.heap.size w'.heap.size v ts ∧ (∀ t ∈ ts, t.Ok) ∧ ts.length ≤ 5 ∧ outsN ts ≤ 15 ∧ Below w.heap.size w w'

theorem outs_snoc (ts : List TxD) (t : TxD) : outsN (ts ++ [t]) = outsN ts + t.outs.length := by simp [outsN]

set_option maxHeartbeats 4000000 in
theorem made_any (Al : Option Addr) (cl : Nat) (l : List Co.EnD) (zs : List SmD) (As : Option Addr) (cs : Nat) (h : Int) (w : World) (lo hi : Nat) (hx : Co.Ents w lo hi (.slice Al l.length cl) l) (hhi : hi ≤ w.heap.size) (hlo : lo ≤ w.heap.size) (hg : Co.Good l) (ha : Co.Arg l) (hl : l.length ≤ 800)
    (hb : Sms w 0 w.heap.size (.slice As zs.length cs) zs) (hz : SmsOk zs) (h1 : 0 ≤ h) (h2 : h ≤ 1000000) :
    Calls Tryz.prog 10 #[.slice Al l.length cl, .slice As zs.length cs, .int .i64 h] w (MdeEnd w) := by
  have EN := Lib.hid (fun V (hV : Below w.heap.size w V) => (hx.keep (Kept.of_below hV hhi)).wide (Nat.le_refl lo) (show hi ≤ V.heap.size from Nat.le_trans hhi hV.size))
  have BY := Lib.hid (fun V (hV : Below w.heap.size w V) => (hb.keep (Kept.of_below hV (Nat.le_refl _))))
  have GD := Lib.hid (And.intro hg ha)
  have ZO := Lib.hid hz
  have hcap := hb.cap
  have QQ := Lib.hid (And.intro h1 h2)
  have HL := Lib.hid hlo
  obtain ⟨nl, hnl⟩ : ∃ n, l.length = n := ⟨_, rfl⟩
  obtain ⟨ns, hns⟩ : ∃ n, zs.length = n := ⟨_, rfl⟩
  rw [hnl] at EN hl ⊢
  rw [hns] at BY hcap ⊢
  obtain ⟨n, hn⟩ : ∃ n, min ns 5 = n := ⟨_, rfl⟩
  have hmn : ∀ w, (Builtin.min_ #[3, 3] 3 #[.int .i64 (ns : Int), .int .i64 5]).run Tryz.prog w = .ok (.int .i64 (n : Nat)) w := by rw [← hn]; exact fun w => run_min_nat 5 #[3, 3] 3 ns w
  have hn1 : n ≤ ns := by omega
  have hn5 : n ≤ 5 := by omega
  have hnc : n ≤ cs := by omega
  have hm0 : ns ≤ maxLen := by have := ZO.out.1; omega
  have z1 : (n : Int) ≤ (cs : Int) := by omega
  have z2 : ¬ (n : Int) < 0 := by omega
  have HN := Lib.hid (And.intro hnl hns)
  obtain ⟨i51, hi51, y0, y1, y2⟩ := info_parts info51
  clear hx hg ha hb hz hnl hns hn h1 h2 hlo
  go_enter Tryz.func10, Tryz.ntmps10
  go_wp2_with fail
  go_loopg [7, 8, 19] n (fun gg s7 s8 s19 wr => ∃ (k : Nat) (m : List Co.EnD) (ts : List TxD) (cells : List Value), k ≤ n ∧ n - k ≤ gg ∧ s19 = .int .i64 (k : Int) ∧ Hid (Co.Ents wr lo wr.heap.size s8 m) ∧ Hid (Co.Good m ∧ Co.Arg m ∧ m.length ≤ nl + 3 * k) ∧ Hid (PileT wr w.heap.size s7 ts cells) ∧ Hid (ts.length = k ∧ (∀ t ∈ ts, t.Ok) ∧ outsN ts ≤ 3 * k) ∧ Hid (Below w.heap.size w wr) ∧ Hid (Off s7 s8 m))
  case atStart => exact ⟨0, l, [], [], Nat.zero_le _, by omega, rfl, Lib.hid (EN.out w (Below.refl _ _)), Lib.hid ⟨GD.out.1, GD.out.2, by rw [HN.out.1]; omega⟩, Lib.hid (PileT.nil _ _), Lib.hid ⟨rfl, by simp, by simp [outsN]⟩, Lib.hid (Below.refl _ _), Lib.hid (.inr fun _ _ _ _ => by simp [Value.ownBlock])⟩
  case round =>
    obtain ⟨k, m, ts, cells, hk, hgk, rfl, HM, HG, HP, HT, HB, HO⟩ := hrel
    obtain ⟨Am, cm, hvm⟩ := HM.out.form
    subst hvm
    obtain ⟨At, ct, hvt⟩ := own_form HP.out.own
    subst hvt
    have zwr := HB.out.size
    by_cases hlt : k < n
    · have j1 : (k : Int) < (n : Int) := by omega
      have j2 : decide (k < n) = true := decide_eq_true hlt
      have j3 : ¬ (k : Int) < 0 := by omega
      obtain ⟨z, hzk⟩ : ∃ z, zs[k]? = some z := ⟨_, List.getElem?_eq_getElem (by rw [HN.out.2]; omega)⟩
      obtain ⟨bz, oz, rfl, _, gz, ⟨vb, c0, hby⟩, c1, c2, c3, c4, c5, c6, c7, c8⟩ := (BY.out wr HB.out).at hzk
      have hzo := ZO.out.2 z (List.mem_of_getElem? hzk)
      obtain ⟨Ab, cb, rfl⟩ := hby.form
      obtain ⟨w1, hw1⟩ : ∃ w1, w1 = wr.alloc (.cells #[.slice Ab z.sp.length cb, .int .u8 z.tag, .int .u16 z.fee, .int .u16 z.outs, .int .u8 z.pays, .int .u8 z.del, .int .u8 z.ht, .bool z.gr, .bool z.odd] 82) := ⟨_, rfl⟩
      have b1 : Below wr.heap.size wr w1 := by rw [hw1]; exact (Below.refl _ _).alloc (Nat.le_refl _) _
      have zw1 : w1.heap.size = wr.heap.size + 1 := by rw [hw1]; simp
      have k1 : w1.heap[wr.heap.size]? = some (.cells #[.slice Ab z.sp.length cb, .int .u8 z.tag, .int .u16 z.fee, .int .u16 z.outs, .int .u8 z.pays, .int .u8 z.del, .int .u8 z.ht, .bool z.gr, .bool z.odd] 82 (0, 0)) := by rw [hw1]; exact heap_alloc_new _ _
      have HM1 := Lib.hid ((HM.out.keep (Kept.of_below b1 (Nat.le_refl _))).wide (Nat.le_refl _) (show wr.heap.size ≤ w1.heap.size by omega))
      have CM := Lib.hid (make_any Am cm m z Ab cb h w1 _ _ HM1.out (Nat.le_refl _) HG.out.1 HG.out.2.1 (by have := HG.out.2.2; omega) ((hby.keep (Kept.of_below b1 zwr)).wide (Nat.le_refl _) (by omega)) hzo QQ.out.1 QQ.out.2)
      have W1 := Lib.hid (show wr.alloc (.cells #[.slice Ab z.sp.length cb, .int .u8 z.tag, .int .u16 z.fee, .int .u16 z.outs, .int .u8 z.pays, .int .u8 z.del, .int .u8 z.ht, .bool z.gr, .bool z.odd] 82) = w1 from hw1.symm)
      obtain ⟨ml, hml⟩ : ∃ x, m.length = x := ⟨_, rfl⟩
      obtain ⟨zl, hzl⟩ : ∃ x, z.sp.length = x := ⟨_, rfl⟩
      obtain ⟨tl, htl⟩ : ∃ x, ts.length = x := ⟨_, rfl⟩
      have HML := Lib.hid (And.intro hml (And.intro hzl htl))
      rw [hml] at CM HM1 HO ⊢
      rw [hzl] at CM W1 k1 c0
      rw [htl] at HP HO ⊢
      have q0 := Co.cell_in (o := 0) (v := .slice Ab zl cb) k1 rfl
      have q1 := Co.cell_in (o := 1) (v := .int .u8 z.tag) k1 rfl
      have q2 := Co.cell_in (o := 2) (v := .int .u16 z.fee) k1 rfl
      have q3 := Co.cell_in (o := 3) (v := .int .u16 z.outs) k1 rfl
      have q4 := Co.cell_in (o := 4) (v := .int .u8 z.pays) k1 rfl
      have q5 := Co.cell_in (o := 5) (v := .int .u8 z.del) k1 rfl
      have q6 := Co.cell_in (o := 6) (v := .int .u8 z.ht) k1 rfl
      have q7 := Co.cell_in (o := 7) (v := .bool z.gr) k1 rfl
      have q8 := Co.cell_in (o := 8) (v := .bool z.odd) k1 rfl
      have B1 := Lib.hid b1
      have Z1 := Lib.hid zw1
      clear hw1 b1 k1 hml hzl htl hzk hby hzo zw1
      go_upto_region 6 with (fail)
      rw [W1.out]
      clear c0 c1 c2 c3 c4 c5 c6 c7 c8
      go_wp2_with fail
      refine CM.out.mono ?_
      rintro e w2 ⟨t, vi, vo, rfl, ht, hto, hol, hb2⟩
      obtain ⟨A1, m1, rfl⟩ := ht.1.form
      obtain ⟨A2, m2, rfl⟩ := ht.2.form
      obtain ⟨n1, hn1'⟩ : ∃ x, t.ins.length = x := ⟨_, rfl⟩
      obtain ⟨n2, hn2'⟩ : ∃ x, t.outs.length = x := ⟨_, rfl⟩
      rw [hn1', hn2'] at ht ⊢
      have T2 := Lib.hid ht
      have TO := Lib.hid (And.intro hto hol)
      have B2 := Lib.hid hb2
      obtain ⟨w3, hw3⟩ : ∃ w3, w3 = w2.alloc (.cells #[.int .u32 t.ver, .slice A1 n1 m1, .slice A2 n2 m2, .int .u32 t.lock] 51) := ⟨_, rfl⟩
      have b3 : Below w2.heap.size w2 w3 := by rw [hw3]; exact (Below.refl _ _).alloc (Nat.le_refl _) _
      have zw3 : w3.heap.size = w2.heap.size + 1 := by rw [hw3]; simp
      have bx3 : Boxed w3 w2.heap.size (.int .u32 t.ver) (.slice A1 n1 m1) (.slice A2 n2 m2) (.int .u32 t.lock) := by rw [hw3]; exact Boxed.new _ _ _ _ _ _
      obtain ⟨d0, d1, d2, d3⟩ := bx3
      have W3 := Lib.hid (show w2.alloc (.cells #[.int .u32 t.ver, .slice A1 n1 m1, .slice A2 n2 m2, .int .u32 t.lock] 51) = w3 from hw3.symm)
      have F3 := Lib.hid (show Below wr.heap.size wr w3 from (B1.out.trans (hb2.mono B1.out.size)).trans (b3.mono (by have := B1.out.size; have := hb2.size; omega)))
      have B3 := Lib.hid b3
      have HP3 := Lib.hid (HP.out.below F3.out)
      have HOW := Lib.hid HP3.out.own
      have zz2 : wr.heap.size < w2.heap.size := by have := hb2.size; have := Z1.out; omega
      have zz3 : w2.heap.size < w3.heap.size := by omega
      have hwb : w.heap.size ≤ w3.heap.size := by omega
      have HLT := Lib.hid (show ∀ g, (Value.slice At tl ct).ownBlock = some g → g < w2.heap.size from fun g hg => by have := (HP.out.own.lt g hg).2; omega)
      rw [HML.out.2.2] at HOW
      have htl5 : tl ≤ 5 := by have := HT.out.1; have := HML.out.2.2; omega
      have hmax : tl + 1 ≤ maxLen := by unfold maxLen; omega
      have hbytes : (tl + 1) * 64 ≤ 140737488355328 := by omega
      have HN12 := Lib.hid (And.intro hn1' hn2')
      have HL3 := Lib.hid (show w3.heap.size = w2.heap.size + 1 from zw3)
      clear hw3 b3 ht hto hol hb2 zw3 q0 q1 q2 q3 q4 q5 q6 q7 q8 hn1' hn2'
      go_upto_region 7 with (fail)
      rw [W3.out]
      go_wp2_with (at_builtin; refine wpList_append_lies _ rfl _ _ 27 rfl w.heap.size 51 i51 _ 4 64 Tryz.underlying27 hi51 y0 y1 y2 rfl (by decide) _ _ _ rfl (HOW.out.alloc _) ⟨w3.heap.size, 0, none⟩ 1 1 [.int .u32 t.ver, .slice A1 n1 m1, .slice A2 n2 m2, .int .u32 t.lock] rfl rfl (four_new _ _ _ _ _ _) (by intro u hu; simp at hu; rcases hu with rfl | rfl | rfl | rfl <;> rfl) (by decide) hmax hbytes (by simp; omega) _ rfl ?_; intro g' cap' w9 hown' hgrow hat hlt'; have e0 := grown_cell hgrow zz3 HLT.out d0; have e1 := grown_cell hgrow zz3 HLT.out d1; have e2 := grown_cell hgrow zz3 HLT.out d2; have e3 := grown_cell hgrow zz3 HLT.out d3)
      have G9 := Lib.hid hgrow
      have O9 := Lib.hid hown'
      have A9 := Lib.hid hat
      have hgl := Lib.hid hlt'
      have z9 : w3.heap.size < w9.heap.size := by have := hgrow.size; simp at this; exact this
      have K9 : ∀ k, k < w3.heap.size → (Value.slice At tl ct).ownBlock ≠ some k → w9.heap[k]? = w3.heap[k]? := fun k h1 h2 => (hgrow.block k (by simp; omega) (fun e => h2 e.symm)).trans (Below.heap_alloc _ _ _ h1)
      have HM9 : Co.Ents w9 lo wr.heap.size (.slice Am m.length cm) m := by
        have h3 := HM.out.keep (Kept.of_below F3.out (Nat.le_refl _))
        refine ents_stay h3 ?_
        have ho := HO.out
        rw [← HML.out.1] at ho
        rcases ho with ho | ho
        · exact .inl ho
        · exact .inr fun a n c e h1 h2 => K9 _ (by omega) (ho a n c e)
      have TX9 : TxAt w9 w1.heap.size w2.heap.size (.slice A1 n1 m1) (.slice A2 n2 m2) t := (T2.out.keep (Kept.of_below B3.out (Nat.le_refl _))).keep fun b h1 h2 => K9 b (by omega) (fun e => by have := (HP.out.own.lt b e).2; have := Z1.out; omega)
      have TX9' := Lib.hid TX9
      rw [← HN12.out.1, ← HN12.out.2] at TX9
      have hlw := HL.out
      have CO := Lib.hid (rone_any Am cm m t k h _ _ w9 lo wr.heap.size HM9 (by omega) (by omega) HG.out.1 (by have := HG.out.2.2; have := TO.out.2; omega) (TX9.wide (Nat.zero_le _) (by omega)) TO.out.1 QQ.out.1 QQ.out.2 (by omega))
      have OKP := Lib.hid (one_keeps (first := k == 0) TO.out.1 QQ.out.1 QQ.out.2 HG.out.1 HG.out.2.1)
      obtain ⟨O, hO⟩ : ∃ O, oneA m t (k == 0) h = O := ⟨_, rfl⟩
      rw [hO] at CO OKP
      rw [HML.out.1, HN12.out.1, HN12.out.2] at CO
      clear hgrow hown' hat hlt' K9 HM9 TX9 hO d0 d1 d2 d3 hlw
      go_wp2_with fail
      refine CO.out.mono ?_
      rintro e w10 ⟨v10, rfl, he10, hb10, hp10⟩
      obtain ⟨oc, hoc⟩ : ∃ c, O.code = c := ⟨_, rfl⟩
      obtain ⟨oi, hoi⟩ : ∃ c, O.inn = c := ⟨_, rfl⟩
      rw [hoc] at he10
      rw [hoc, hoi]
      obtain ⟨m', hm'⟩ : ∃ x, (if oc = 0 then O.l else m) = x := ⟨_, rfl⟩
      rw [hm'] at he10
      have M10 := Lib.hid he10
      have B10 := Lib.hid hb10
      have KM := Lib.hid (show Co.Good m' ∧ Co.Arg m' ∧ m'.length ≤ nl + 3 * (k + 1) from by
        have h3 := HG.out.2.2
        have h4 := TO.out.2
        rw [← hm']
        split
        · exact ⟨OKP.out.1, OKP.out.2.1, by have := OKP.out.2.2; omega⟩
        · exact ⟨HG.out.1, HG.out.2.1, by omega⟩)
      have OF := Lib.hid (show ∀ n' c', Off (.slice (some ⟨_, 0, none⟩) n' c') v10 m' from fun n' c' => off_next HM1.out (by have := HO.out; exact this) (show w1.heap.size ≤ (w3.alloc (.cells #[.int .u32 t.ver, .slice A1 n1 m1, .slice A2 n2 m2, .int .u32 t.lock] 51)).heap.size by have := B2.out.size; simp; omega) A9.out hgl.out hp10 he10)
      clear he10 hb10 hp10 hm' hoc hoi e0 e1 e2 e3
      go_wp2_with fail
      go_roundg (n - (k + 1))
      case measure => omega
      case rel =>
        have h5 := HML.out.2.2
        subst h5
        have RP := HP3.out.push (t := t) (T2.out.keep (Kept.of_below B3.out (Nat.le_refl _))) (by have := Z1.out; omega) (by omega) (fun g hg => .inl (by have := (HP.out.own.lt g hg).2; have := Z1.out; omega)) G9.out O9.out (fun g hg => by
          simp [Value.ownBlock] at hg
          subst hg
          rcases A9.out with e | e
          · exact .inl e
          · exact .inr (by rw [e]; simp))
        have RB := RP.below B10.out
        exact ⟨k + 1, m', ts ++ [t], _, by omega, by omega, by go_num, M10, KM, Lib.hid RB, Lib.hid ⟨by rw [List.length_append, HT.out.1]; rfl, fun x hx => by
          rcases List.mem_append.1 hx with hx | hx
          · exact HT.out.2.1 x hx
          · obtain rfl := List.mem_singleton.1 hx
            exact TO.out.1, by rw [outs_snoc]; have := HT.out.2.2; have := TO.out.2; omega⟩, Lib.hid (below_next ((HB.out.trans (F3.out.mono zwr)).trans (grown_below G9.out (own_block HP3.out.own) hwb)) (by omega) B10.out), Lib.hid (OF.out _ _)⟩
    · have k3 : ¬ (k : Int) < (n : Int) := by omega
      have k4 : decide (k < n) = false := decide_eq_false hlt
      have TT := Lib.hid HP.out.txs
      obtain ⟨tl, htl⟩ : ∃ x, ts.length = x := ⟨_, rfl⟩
      obtain ⟨ml, hml⟩ : ∃ x, m.length = x := ⟨_, rfl⟩
      have HTL := Lib.hid htl
      rw [hml]
      rw [htl]
      clear hml htl
      go_wp2_with fail
      go_ret
      exact ⟨_, ts, rfl, by rw [← HTL.out]; exact TT.out, HT.out.2.1, by have := HT.out.1; omega, by have := HT.out.2.2; have := HT.out.1; omega, HB.out⟩

end Go.Proofs.YtnmfjnfdnjjngaaGreatDoor
