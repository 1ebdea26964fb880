/-
  The transaction that is to open a lock, as LockOpens, LockRipe and LockKeeps make it.
-/
import Derived.Test.YtdldhfhhhjenkaaSpd
import Derived.Test.YtdldhfhhhjenkaaSwalk
import Derived.Test.YtdldhfhhhjenkaaFit
import Derived.Deep.RegionHeld3
import Derived.Deep.CutBlock
namespace Go.Proofs.Ytdldhfhhhjenkaa
open Go.RowKit

theorem take_at {P : Program} {ops : Array Oper} {Q : Exit → Act → World → Prop} {md : Region.Mode} {S : World → Prop} {i d : Nat} {oi : Oper} {v : Value} {fuel : Nat} {listed : Array Bool} {a : Act} {w : World}
    (hi : ops[i]? = some oi) (hd : oi.dst = some d) (hs : Region.noSelect ops = true) (hf : Region.free md ops listed i = true) (hr : (Region.ready md ops listed).contains i = true)
    (hQ : ∀ c a w, Q (.panic c) (a.put (some d) v) w → Q (.panic c) a w) (hy : YieldsIf P ops S oi v a) (hS : S w)
    (h : wpAnyH P md ops Q S fuel (listed.setIfInBounds i true) (a.put (some d) v) w) : wpAnyH P md ops Q S (fuel + 1) listed a w :=
  wpAnyH_take (oi := oi) (v := v) hi hs hf hr (by rw [hd]; exact hQ) hy hS (by rw [hd]; exact h)

/-- A cell that holds no slice is not touched where a slice is written over. -/
theorem cell_past {w : World} {p q : Addr} {A : Option Addr} {n c : Nat} {u v : Value} (hp : w.cell? p = some (.slice A n c)) (hq : w.cell? q = some v) (hv : ∀ A n c, v ≠ .slice A n c) : (w.setCell p u).cell? q = some v := by
  refine (World.cell?_setCell_other _ _ _ _ ?_).trans hq
  rintro rfl
  rw [hp] at hq
  injection hq with hq
  exact hv A n c hq.symm
theorem Strs.past {w : World} {lo hi : Nat} {v : Value} {ss : List ByteArray} (h : Strs w lo hi v ss) {p : Addr} {A : Option Addr} {n c : Nat} (u : Value) (hp : w.cell? p = some (.slice A n c)) : Strs (w.setCell p u) lo hi v ss := by
  obtain ⟨A', c', rfl, hc, h⟩ := h
  refine ⟨A', c', rfl, hc, ?_⟩
  rcases h with h | ⟨b, off, rfl, h1, h2, h⟩
  · exact .inl h
  · exact .inr ⟨b, off, rfl, h1, h2, fun k s hs => cell_past hp (h k s hs) (by intro A n c e; cases e)⟩
theorem Outs.past {w : World} {lo hi : Nat} {v : Value} {xs : List OutD} (h : Outs w lo hi v xs) {p : Addr} {A : Option Addr} {n c : Nat} (u : Value) (hp : w.cell? p = some (.slice A n c)) : Outs (w.setCell p u) lo hi v xs := by
  obtain ⟨A', c', rfl, hc, h⟩ := h
  refine ⟨A', c', rfl, hc, ?_⟩
  rcases h with h | ⟨b, off, rfl, h1, h2, h⟩
  · exact .inl h
  · exact .inr ⟨b, off, rfl, h1, h2, fun k s hs => ⟨cell_past hp (h k s hs).1 (by intro A n c e; cases e), cell_past hp (h k s hs).2 (by intro A n c e; cases e)⟩⟩
/-- An input's Witness, written. -/
def setWit (xs : List InD) (k : Nat) (x : InD) (ss : List ByteArray) : List InD := xs.set k ⟨x.id, x.ix, x.sq, ss⟩
theorem set_wit {w : World} {lo hi g c k : Nat} {xs : List InD} {x : InD} {u : Value} {ss : List ByteArray} (h : Ins w lo hi (.slice (some ⟨g, 0, none⟩) xs.length c) xs) (hx : xs[k]? = some x) (hu : Strs w lo hi u ss) :
    (∃ A n c, w.cell? ⟨g, k * 4 + 3, none⟩ = some (.slice A n c)) ∧ Ins (w.setCell ⟨g, k * 4 + 3, none⟩ u) lo hi (.slice (some ⟨g, 0, none⟩) xs.length c) (setWit xs k x ss) := by
  obtain ⟨A', c', hv, hc, h⟩ := h
  injection hv with e1 _ e3
  subst e1 e3
  rcases h with rfl | ⟨b, off, hb, h1, h2, h⟩
  · simp at hx
  injection hb with hb
  injection hb with e1 e2
  subst e1 e2
  obtain ⟨c0, c1, c2, v, c3, hs⟩ := h k x hx
  rw [Nat.zero_add] at c0 c1 c2 c3
  obtain ⟨Av, cv, rfl⟩ := hs.form
  refine ⟨⟨Av, _, cv, c3⟩, _, c, by unfold setWit; rw [List.length_set], by unfold setWit; rw [List.length_set]; exact hc, .inr ⟨g, 0, rfl, h1, h2, fun j y hy => ?_⟩⟩
  rw [Nat.zero_add]
  have ns : ∀ {q : Value}, (∃ s, q = .string s) ∨ (∃ k n, q = .int k n) → ∀ A n c, q ≠ .slice A n c := by
    rintro q (⟨s, rfl⟩ | ⟨k, n, rfl⟩) A n c e <;> cases e
  by_cases e : j = k
  · subst e
    unfold setWit at hy
    rw [List.getElem?_set_self (List.getElem?_eq_some_iff.1 hx).1] at hy
    injection hy with hy
    subst hy
    exact ⟨cell_past c3 c0 (ns (.inl ⟨_, rfl⟩)), cell_past c3 c1 (ns (.inr ⟨_, _, rfl⟩)), cell_past c3 c2 (ns (.inr ⟨_, _, rfl⟩)), u, World.cell?_setCell_same _ _ _ c3, hu.past u c3⟩
  · unfold setWit at hy
    rw [List.getElem?_set_ne (fun q => e q.symm)] at hy
    obtain ⟨a0, a1, a2, v', a3, hs'⟩ := h j y hy
    rw [Nat.zero_add] at a0 a1 a2 a3
    refine ⟨cell_past c3 a0 (ns (.inl ⟨_, rfl⟩)), cell_past c3 a1 (ns (.inr ⟨_, _, rfl⟩)), cell_past c3 a2 (ns (.inr ⟨_, _, rfl⟩)), v', ?_, hs'.past u c3⟩
    exact (World.cell?_setCell_other _ _ _ _ (by intro q; injection q with _ q; omega)).trans a3
theorem setWit_ok {xs : List InD} {k : Nat} {x : InD} {ss : List ByteArray} (h : ∀ y ∈ xs, y.Ok) (hx : xs[k]? = some x) (hl : ss.length ≤ 8) (hs : ∀ s ∈ ss, s.size ≤ 128) : ∀ y ∈ setWit xs k x ss, y.Ok := by
  intro y hy
  rcases List.mem_or_eq_of_mem_set hy with hy | rfl
  · exact h y hy
  · obtain ⟨q1, q2, q3, q4, q5, _, _⟩ := h x (List.mem_of_getElem? hx)
    exact ⟨q1, q2, q3, q4, q5, hl, hs⟩

/-- Four cells of a block, written. -/
theorem done4 {w1 : World} {g : Nat} {x0 x1 x2 x3 : Value} (a b c d : Value) (e0 : w1.cell? ⟨g, 0, none⟩ = some x0) (e1 : w1.cell? ⟨g, 1, none⟩ = some x1) (e2 : w1.cell? ⟨g, 2, none⟩ = some x2) (e3 : w1.cell? ⟨g, 3, none⟩ = some x3) :
    ((((w1.setCell ⟨g, 0, none⟩ a).setCell ⟨g, 1, none⟩ b).setCell ⟨g, 2, none⟩ c).setCell ⟨g, 3, none⟩ d).cell? ⟨g, 0, none⟩ = some a ∧ ((((w1.setCell ⟨g, 0, none⟩ a).setCell ⟨g, 1, none⟩ b).setCell ⟨g, 2, none⟩ c).setCell ⟨g, 3, none⟩ d).cell? ⟨g, 1, none⟩ = some b ∧ ((((w1.setCell ⟨g, 0, none⟩ a).setCell ⟨g, 1, none⟩ b).setCell ⟨g, 2, none⟩ c).setCell ⟨g, 3, none⟩ d).cell? ⟨g, 2, none⟩ = some c ∧ ((((w1.setCell ⟨g, 0, none⟩ a).setCell ⟨g, 1, none⟩ b).setCell ⟨g, 2, none⟩ c).setCell ⟨g, 3, none⟩ d).cell? ⟨g, 3, none⟩ = some d := by
  have ne : ∀ {W : World} {o p : Nat} {v : Value}, o ≠ p → (W.setCell ⟨g, p, none⟩ v).cell? ⟨g, o, none⟩ = W.cell? ⟨g, o, none⟩ := fun ho => World.cell?_setCell_other _ _ _ _ (by intro e; injection e with _ e; exact ho e.symm)
  refine ⟨?_, ?_, ?_, ?_⟩
  · rw [ne (by omega), ne (by omega), ne (by omega)]; exact World.cell?_setCell_same _ _ _ e0
  · rw [ne (by omega), ne (by omega)]; exact World.cell?_setCell_same _ _ _ ((ne (by omega)).trans e1)
  · rw [ne (by omega)]; exact World.cell?_setCell_same _ _ _ ((ne (by omega)).trans ((ne (by omega)).trans e2))
  · exact World.cell?_setCell_same _ _ _ ((ne (by omega)).trans ((ne (by omega)).trans ((ne (by omega)).trans e3)))

/-- What spending answers. -/
def SpGives (w : World) (e : Ending) (w' : World) : Prop :=
  ∃ (u : TxD) (Ai Ao : Option Addr) (ci co : Nat) (k : Int), e = .returned (.tuple #[.agg #[.int .u32 u.ver, .slice Ai u.ins.length ci, .slice Ao u.outs.length co, .int .u32 u.lock], .int .i64 k]) ∧ u.Ok ∧ TxAt w' 0 w'.heap.size (.slice Ai u.ins.length ci) (.slice Ao u.outs.length co) u ∧ (-9223372036854775808 ≤ k ∧ k ≤ 9223372036854775807) ∧ Below w.heap.size w w'
/-- Where spending stands ahead of its end. -/
structure SpS (w : World) (bt : Nat) (u : TxD) (Ai Ao : Option Addr) (ci co : Nat) (W : World) : Prop where
  box : Boxed W bt (.int .u32 u.ver) (.slice Ai u.ins.length ci) (.slice Ao u.outs.length co) (.int .u32 u.lock)
  res : ∃ cur, W.heap[w.heap.size + 1]? = some (.cells cur 53 (0, 0)) ∧ cur.size = 4
  tx : TxAt W (w.heap.size + 2) W.heap.size (.slice Ai u.ins.length ci) (.slice Ao u.outs.length co) u
  ok : u.Ok
  lt : w.heap.size + 1 < bt ∧ bt < W.heap.size
  bel : Below w.heap.size w W
theorem SpS.cells {w : World} {bt : Nat} {u : TxD} {Ai Ao : Option Addr} {ci co : Nat} {W : World} (h : SpS w bt u Ai Ao ci co W) {o : Nat} (ho : o < 4) : (∃ v, W.cell? ⟨w.heap.size + 1, o, none⟩ = some v) ∧ W.frozen? ⟨w.heap.size + 1, o, none⟩ = false := by
  obtain ⟨cur, hc, hz⟩ := h.res
  have e : W.cell? ⟨w.heap.size + 1, o, none⟩ = cur[o]? := by simp [World.cell?, hc]
  exact ⟨⟨cur[o]'(by omega), by rw [e]; exact Array.getElem?_eq_getElem (by omega)⟩, Lib.frozen_of_heap hc o⟩
theorem SpS.done {w : World} {bt : Nat} {u : TxD} {Ai Ao : Option Addr} {ci co : Nat} {W : World} (h : SpS w bt u Ai Ao ci co W) (a b c d : Value) (k : Int) (hk : -9223372036854775808 ≤ k ∧ k ≤ 9223372036854775807) :
    SpGives w (.returned (.tuple #[.agg #[.int .u32 u.ver, .slice Ai u.ins.length ci, .slice Ao u.outs.length co, .int .u32 u.lock], .int .i64 k])) ((((W.setCell ⟨w.heap.size + 1, 0, none⟩ a).setCell ⟨w.heap.size + 1, 1, none⟩ b).setCell ⟨w.heap.size + 1, 2, none⟩ c).setCell ⟨w.heap.size + 1, 3, none⟩ d) := by
  refine ⟨u, Ai, Ao, ci, co, k, rfl, h.ok, ?_, hk, (((h.bel.setCell (p := ⟨w.heap.size + 1, 0, none⟩) (Nat.le_succ _) _).setCell (p := ⟨w.heap.size + 1, 1, none⟩) (Nat.le_succ _) _).setCell (p := ⟨w.heap.size + 1, 2, none⟩) (Nat.le_succ _) _).setCell (p := ⟨w.heap.size + 1, 3, none⟩) (Nat.le_succ _) _⟩
  have kp : ∀ {X : World} {o : Nat} {v : Value}, Kept (w.heap.size + 2) W.heap.size X (X.setCell ⟨w.heap.size + 1, o, none⟩ v) := fun {X o v} => Kept.setCell (p := ⟨w.heap.size + 1, o, none⟩) (.inl (Nat.lt_succ_self _)) v
  exact (((((h.tx.keep kp).keep kp).keep kp).keep kp).wide (Nat.zero_le _) (by simp))

set_option maxHeartbeats 4000000 in
set_option maxRecDepth 100000 in
theorem spending_any (t : TxD) (i : Int) (own : Bool) (br tg : Int) (u0 u1 u7 u8 u9 vi vo : Value) (w : World) (ht : TxAt w 0 w.heap.size vi vo t) (hc : t.Came) (hi : -9223372036854775808 ≤ i ∧ i ≤ 9223372036854775807) (hbr : 0 ≤ br ∧ br ≤ 255) (htg : 0 ≤ tg ∧ tg ≤ 255) :
    Calls Try.prog 22 #[.agg #[u0, u1, .int .u32 t.ver, vi, vo, .int .u32 t.lock, .int .i64 i, u7, u8, u9, .bool own, .int .u8 br, .int .u8 tg]] w (SpGives w) := by
  obtain ⟨w0, hw0⟩ : ∃ w0, w0 = (w.alloc (.cells #[u0, u1, .int .u32 t.ver, vi, vo, .int .u32 t.lock, .int .i64 i, u7, u8, u9, .bool own, .int .u8 br, .int .u8 tg] 55)).alloc (.cells #[.int .u32 0, .slice none 0 0, .slice none 0 0, .int .u32 0] 53) := ⟨_, rfl⟩
  have z0 : w0.heap.size = w.heap.size + 2 := by rw [hw0]; simp
  have hb0 : Below w.heap.size w w0 := by rw [hw0]; exact ((Below.refl _ _).alloc (Nat.le_refl _) _).alloc (by simp) _
  have hz : w0.heap[w.heap.size]? = some (.cells #[u0, u1, .int .u32 t.ver, vi, vo, .int .u32 t.lock, .int .i64 i, u7, u8, u9, .bool own, .int .u8 br, .int .u8 tg] 55 (0, 0)) := by rw [hw0]; exact (Below.heap_alloc _ _ _ (by simp)).trans (heap_alloc_new w _)
  have hr : w0.heap[w.heap.size + 1]? = some (.cells #[.int .u32 0, .slice none 0 0, .slice none 0 0, .int .u32 0] 53 (0, 0)) := by
    rw [hw0]
    have h := heap_alloc_new (w.alloc (.cells #[u0, u1, .int .u32 t.ver, vi, vo, .int .u32 t.lock, .int .i64 i, u7, u8, u9, .bool own, .int .u8 br, .int .u8 tg] 55)) (.cells #[.int .u32 0, .slice none 0 0, .slice none 0 0, .int .u32 0] 53)
    simpa using h
  have CF := Lib.hid (fit_any t vi vo w0 w.heap.size (ht.keep (Kept.of_below hb0 (Nat.le_refl _))) (by omega) hc)
  have a2 : w0.cell? ⟨w.heap.size, 2, none⟩ = some (.int .u32 t.ver) := by rw [Lib.cell_of_heap hz]; rfl
  have a3 : w0.cell? ⟨w.heap.size, 3, none⟩ = some vi := by rw [Lib.cell_of_heap hz]; rfl
  have a4 : w0.cell? ⟨w.heap.size, 4, none⟩ = some vo := by rw [Lib.cell_of_heap hz]; rfl
  have a5 : w0.cell? ⟨w.heap.size, 5, none⟩ = some (.int .u32 t.lock) := by rw [Lib.cell_of_heap hz]; rfl
  have HW0 := Lib.hid hw0
  have B0 := Lib.hid hb0
  have HZ := Lib.hid hz
  have HR := Lib.hid hr
  clear ht hc hw0 hb0 hz hr
  go_enter Try.func22, Try.ntmps22
  go_upto_region 1 with (fail)
  rw [show World.alloc (World.alloc w _) _ = w0 from HW0.out.symm]
  go_wp2_with fail
  refine CF.out.mono ?_
  rintro e w1 ⟨u, Ai, Ao, ci, co, rfl, huo, hl1, hl2, hci, hco, hri, hro, hb1⟩
  clear a2 a3 a4 a5
  have z1 := hb1.size
  obtain ⟨w2, hw2⟩ : ∃ w2, w2 = w1.alloc (.cells #[.int .u32 u.ver, .slice Ai u.ins.length ci, .slice Ao u.outs.length co, .int .u32 u.lock] 53) := ⟨_, rfl⟩
  have z2 : w2.heap.size = w1.heap.size + 1 := by rw [hw2]; simp
  have hb2 : Below w1.heap.size w1 w2 := by rw [hw2]; exact (Below.refl _ _).alloc (Nat.le_refl _) _
  have q0 := (hb2.block w.heap.size (by omega)).trans ((hb1.block w.heap.size (by omega)).trans HZ.out)
  have q1 := (hb2.block (w.heap.size + 1) (by omega)).trans ((hb1.block (w.heap.size + 1) (by omega)).trans HR.out)
  have S2 := Lib.hid (show SpS w w1.heap.size u Ai Ao ci co w2 from ⟨by rw [hw2]; exact Boxed.new _ _ _ _ _ _, ⟨_, q1, rfl⟩, ⟨((hri.ins hci).keep (Kept.of_below hb2 (Nat.le_refl _))).wide (by omega) (by omega), ((hro.outs hco).keep (Kept.of_below hb2 (Nat.le_refl _))).wide (by omega) (by omega)⟩, huo, ⟨by omega, by omega⟩, below_next (below_next B0.out (by omega) hb1) (by omega) hb2⟩)
  have a6 : w2.cell? ⟨w.heap.size, 6, none⟩ = some (.int .i64 i) := by rw [Lib.cell_of_heap q0]; rfl
  have a10 : w2.cell? ⟨w.heap.size, 10, none⟩ = some (.bool own) := by rw [Lib.cell_of_heap q0]; rfl
  have a11 : w2.cell? ⟨w.heap.size, 11, none⟩ = some (.int .u8 br) := by rw [Lib.cell_of_heap q0]; rfl
  have a12 : w2.cell? ⟨w.heap.size, 12, none⟩ = some (.int .u8 tg) := by rw [Lib.cell_of_heap q0]; rfl
  have HW2 := Lib.hid hw2
  have HRI := Lib.hid hri
  have HB2 := Lib.hid hb2
  clear hri hro hb1 hb2 hw2 huo q0 q1 CF HZ HR
  go_upto_region 2 with (fail)
  rw [show World.alloc w1 _ = w2 from HW2.out.symm]
  obtain ⟨b0, b1, b2, b3⟩ := S2.out.box
  obtain ⟨⟨r0, e0⟩, g0⟩ := S2.out.cells (o := 0) (by omega)
  obtain ⟨⟨r1, e1⟩, g1⟩ := S2.out.cells (o := 1) (by omega)
  obtain ⟨⟨r2, e2⟩, g2⟩ := S2.out.cells (o := 2) (by omega)
  obtain ⟨⟨r3, e3⟩, g3⟩ := S2.out.cells (o := 3) (by omega)
  have lt2 := S2.out.lt
  obtain ⟨n, hn⟩ : ∃ n, u.ins.length = n := ⟨_, rfl⟩
  rw [hn] at b1 hl1 ⊢
  by_cases h0 : n = 0
  · have p0 : ¬ (0 : Int) < (n : Int) := by omega
    clear h0
    go_wp2_with fail
    obtain ⟨d0, d1, d2, d3⟩ := done4 (.int .u32 u.ver) (.slice Ai n ci) (.slice Ao u.outs.length co) (.int .u32 u.lock) e0 e1 e2 e3
    refine bodyPost_ret (v := .tuple #[.agg #[.int .u32 u.ver, .slice Ai n ci, .slice Ao u.outs.length co, .int .u32 u.lock], .int .i64 i]) (by simp [results, Try.results22, go_sem, d0, d1, d2, d3]) rfl ?_
    have h := S2.out.done (.int .u32 u.ver) (.slice Ai n ci) (.slice Ao u.outs.length co) (.int .u32 u.lock) i hi
    rw [hn] at h
    exact h
  · have p0 : (0 : Int) < (n : Int) := by omega
    obtain ⟨mx, hmx⟩ : ∃ m : Int, max 0 i = m := ⟨_, rfl⟩
    have hmax : ∀ w, (Builtin.max_ #[3, 3] 3 #[.int .i64 0, .int .i64 i]).run Try.prog w = .ok (.int .i64 mx) w := by rw [← hmx]; exact fun w => run_max0 #[3, 3] 3 i w
    obtain ⟨k, hk1, hk2⟩ : ∃ k : Nat, mx.tmod (n : Int) = (k : Int) ∧ k < n := by
      have a := Int.tmod_nonneg (n : Int) (show 0 ≤ mx by omega)
      have b := Int.tmod_lt_of_pos mx (b := (n : Int)) (by omega)
      exact ⟨(mx.tmod (n : Int)).toNat, by omega, by omega⟩
    have hk3 : (k : Int) < (n : Int) := by omega
    have nz : ¬ (n : Int) = 0 := by omega
    have vk : IntKind.i64.wrap (k : Int) = (k : Int) := by rw [IntWalk.i64_in _ (by omega)]
    clear hmx h0
    cases own with
    | false =>
      go_wp2_with fail
      obtain ⟨d0, d1, d2, d3⟩ := done4 (.int .u32 u.ver) (.slice Ai n ci) (.slice Ao u.outs.length co) (.int .u32 u.lock) e0 e1 e2 e3
      refine bodyPost_ret (v := .tuple #[.agg #[.int .u32 u.ver, .slice Ai n ci, .slice Ao u.outs.length co, .int .u32 u.lock], .int .i64 (k : Int)]) (by simp [results, Try.results22, go_sem, d0, d1, d2, d3]) rfl ?_
      have h := S2.out.done (.int .u32 u.ver) (.slice Ai n ci) (.slice Ao u.outs.length co) (.int .u32 u.lock) (k : Int) (by omega)
      rw [hn] at h
      exact h
    | true =>
      obtain ⟨x, hx⟩ : ∃ x, u.ins[k]? = some x := ⟨_, List.getElem?_eq_getElem (by omega)⟩
      obtain ⟨g, cur, hA, gg1, gg2, hgb, _⟩ : ∃ g cur, Ai = some ⟨g, 0, none⟩ ∧ w0.heap.size ≤ g ∧ g < w1.heap.size ∧ w1.heap[g]? = some (.cells cur 66 (0, 0)) ∧ True := by
        rcases HRI.out with h | ⟨g, cur, e, h1, h2, h3, _⟩
        · rw [h] at hn; simp at hn; omega
        · exact ⟨g, cur, e, h1, h2, h3, trivial⟩
      subst hA
      obtain ⟨b', off', hA', _, _, c0, c1, c2, v, aw, hst⟩ := S2.out.tx.1.at hx
      injection hA' with hA'
      injection hA' with q1 q2
      subst q1 q2
      rw [Nat.zero_add] at aw
      have fw : w2.frozen? ⟨g, k * 4 + 3, none⟩ = false := Lib.frozen_of_heap ((HB2.out.block g gg2).trans hgb) (k * 4 + 3)
      obtain ⟨Aw, cw, hv⟩ := hst.form
      subst hv
      have m1 : br.tmod 3 = br % 3 := Int.tmod_eq_emod_of_nonneg hbr.1
      have m2 : tg.tmod 4 = tg % 4 := Int.tmod_eq_emod_of_nonneg htg.1
      have m3 : IntKind.u8.wrap (br % 3) = br % 3 := by rw [IntWalk.u8_in _ (by omega)]
      have m4 : IntKind.u8.wrap (tg % 4) = tg % 4 := by rw [IntWalk.u8_in _ (by omega)]
      have m5 : IntKind.i64.wrap (br % 3) = br % 3 := by rw [IntWalk.i64_in _ (by omega)]
      have m6 : IntKind.u16.wrap (tg % 4) = tg % 4 := by rw [IntWalk.u16_in _ (by omega)]
      have CR := Lib.hid (rsign_any (br % 3) (tg % 4) w2.drew (by omega) (by omega))
      have hsz : (sgS (br % 3) (tg % 4)).size = 3 := by unfold sgS; rw [ByteArray.size_append, put_sz1, put_sz2]
      generalize sgS (br % 3) (tg % 4) = sg at CR hsz
      obtain ⟨u2, hu2⟩ : ∃ u2 : TxD, u2 = ⟨u.ver, setWit u.ins k x [sg], u.outs, u.lock⟩ := ⟨_, rfl⟩
      have hu2l : u2.ins.length = n := by rw [hu2]; show (setWit u.ins k x [sg]).length = n; unfold setWit; rw [List.length_set, hn]
      have HX := Lib.hid hx
      have FIN := Lib.hid (fun (w3 : World) (A3 : Option Addr) (c3 : Nat) (hs3 : Strs w3 w2.drew.heap.size w3.heap.size (.slice A3 1 c3) [sg]) (hb3 : Below w2.drew.heap.size w2.drew w3) => (show SpS w w1.heap.size u2 (some ⟨g, 0, none⟩) Ao ci co (w3.setCell ⟨g, k * 4 + 3, none⟩ (.slice A3 1 c3)) from by
        have hb : Below w2.heap.size w2 w3 := ⟨hb3.os, hb3.tape, hb3.output, hb3.size, hb3.block⟩
        have zz := hb.size
        have hg1 : g < w2.heap.size := by omega
        have hti := ((S2.out.tx.1.keep (Kept.of_below hb (Nat.le_refl _))).wide (Nat.le_refl _) zz)
        have hto := ((S2.out.tx.2.keep (Kept.of_below hb (Nat.le_refl _))).wide (Nat.le_refl _) zz)
        have hs3' : Strs w3 (w.heap.size + 2) w3.heap.size (.slice A3 1 c3) [sg] := hs3.wide (show w.heap.size + 2 ≤ w2.heap.size by omega) (Nat.le_refl _)
        obtain ⟨⟨A9, n9, c9, hc9⟩, hins⟩ := set_wit hti HX.out hs3'
        have bx := S2.out.box.below (by omega) hb
        obtain ⟨cr, hcr, hcz⟩ := S2.out.res
        have far : ∀ b, b ≠ g → (w3.setCell ⟨g, k * 4 + 3, none⟩ (.slice A3 1 c3)).heap[b]? = w3.heap[b]? := fun b hb => Below.heap_setCell _ _ _ _ hb
        have fc : ∀ o, (w3.setCell ⟨g, k * 4 + 3, none⟩ (.slice A3 1 c3)).cell? ⟨w1.heap.size, o, none⟩ = w3.cell? ⟨w1.heap.size, o, none⟩ := fun o => World.cell?_of_block (w := w3) (far w1.heap.size (by omega))
        rw [hu2]
        refine ⟨?_, ⟨cr, (far (w.heap.size + 1) (by omega)).trans ((hb.block (w.heap.size + 1) (by omega)).trans hcr), hcz⟩, ⟨?_, ?_⟩, ?_, ⟨by omega, by rw [World.size_setCell]; omega⟩, (below_next S2.out.bel S2.out.bel.size hb).setCell (p := ⟨g, k * 4 + 3, none⟩) (show w.heap.size ≤ g by omega) _⟩
        · refine ⟨(fc 0).trans bx.1, ?_, (fc 2).trans bx.2.2.1, (fc 3).trans bx.2.2.2⟩
          have e : (setWit u.ins k x [sg]).length = u.ins.length := by unfold setWit; rw [List.length_set]
          show _ = some (Value.slice _ (setWit u.ins k x [sg]).length _)
          rw [e]
          exact (fc 1).trans bx.2.1
        · have e : (setWit u.ins k x [sg]).length = u.ins.length := by unfold setWit; rw [List.length_set]
          show Ins _ _ _ (Value.slice _ (setWit u.ins k x [sg]).length _) _
          rw [e, World.size_setCell]
          exact hins
        · rw [World.size_setCell]
          exact hto.past _ hc9
        · have ok := S2.out.ok
          refine ⟨?_, ok.2.1, setWit_ok ok.2.2.1 HX.out (by show 1 ≤ 8; decide) (by intro s hs; simp at hs; subst hs; omega), ok.2.2.2.1, ok.2.2.2.2⟩
          show (setWit u.ins k x [sg]).length ≤ 512
          unfold setWit
          rw [List.length_set]
          exact ok.1))
      have STK := Lib.hid (fun (w1' : World) (v' : Value) (h : w1'.cell? ⟨w1.heap.size, 1, none⟩ = some (.slice (some ⟨g, 0, none⟩) n ci) ∧ w1'.cell? ⟨w.heap.size, 11, none⟩ = some (.int .u8 br) ∧ w1'.cell? ⟨w.heap.size, 12, none⟩ = some (.int .u8 tg)) => (show (w1'.setCell ⟨g, k * 4 + 3, none⟩ v').cell? ⟨w1.heap.size, 1, none⟩ = some (.slice (some ⟨g, 0, none⟩) n ci) ∧ (w1'.setCell ⟨g, k * 4 + 3, none⟩ v').cell? ⟨w.heap.size, 11, none⟩ = some (.int .u8 br) ∧ (w1'.setCell ⟨g, k * 4 + 3, none⟩ v').cell? ⟨w.heap.size, 12, none⟩ = some (.int .u8 tg) from
        ⟨(World.cell?_of_block (w := w1') (a := ⟨w1.heap.size, 1, none⟩) (Below.heap_setCell _ _ _ _ (by show w1.heap.size ≠ g; omega))).trans h.1, (World.cell?_of_block (w := w1') (a := ⟨w.heap.size, 11, none⟩) (Below.heap_setCell _ _ _ _ (by show w.heap.size ≠ g; omega))).trans h.2.1, (World.cell?_of_block (w := w1') (a := ⟨w.heap.size, 12, none⟩) (Below.heap_setCell _ _ _ _ (by show w.heap.size ≠ g; omega))).trans h.2.2⟩))
      have hv2 : u2.ver = u.ver := by rw [hu2]
      have hlk : u2.lock = u.lock := by rw [hu2]
      have hou : u2.outs.length = u.outs.length := by rw [hu2]
      clear hx hst c0 c1 c2 hu2 hsz hgb
      go_upto_region 6 with (fail)
      refine wp_region_held_drew (S := fun w' => w'.cell? ⟨w1.heap.size, 1, none⟩ = some (.slice (some ⟨g, 0, none⟩) n ci) ∧ w'.cell? ⟨w.heap.size, 11, none⟩ = some (.int .u8 br) ∧ w'.cell? ⟨w.heap.size, 12, none⟩ = some (.int .u8 tg)) (by kernel_rfl) ?_ (fun hHeld => ?_)
      · exact ⟨b1, a11, a12⟩
      refine take_at (i := 0) (d := 24) (v := ?vq1) rfl rfl (by kernel_rfl) (by kernel_rfl) (by kernel_rfl) (fun _ _ _ h => h) (Or.inl ⟨by rfl, ?yq1⟩) hHeld ?rq1
      case yq1 => (intro w hSw; (try dsimp only at hSw); obtain ⟨hSw1, hSw2, hSw3⟩ := hSw; go_simp; try with_reducible rfl)
      simp only [Act.put, List.setIfInBounds_toArray, List.set_cons_zero, List.set_cons_succ]
      refine take_at (i := 1) (d := 25) (v := ?vq2) rfl rfl (by kernel_rfl) (by kernel_rfl) (by kernel_rfl) (fun _ _ _ h => h) (Or.inl ⟨by rfl, ?yq2⟩) hHeld ?rq2
      case yq2 => (intro w hSw; (try dsimp only at hSw); obtain ⟨hSw1, hSw2, hSw3⟩ := hSw; go_simp; try with_reducible rfl)
      simp only [Act.put, List.setIfInBounds_toArray, List.set_cons_zero, List.set_cons_succ]
      refine take_at (i := 2) (d := 26) (v := ?vq3) rfl rfl (by kernel_rfl) (by kernel_rfl) (by kernel_rfl) (fun _ _ _ h => h) (Or.inl ⟨by rfl, ?yq3⟩) hHeld ?rq3
      case yq3 => (intro w hSw; (try dsimp only at hSw); obtain ⟨hSw1, hSw2, hSw3⟩ := hSw; go_simp; try with_reducible rfl)
      simp only [Act.put, List.setIfInBounds_toArray, List.set_cons_zero, List.set_cons_succ]
      refine take_at (i := 3) (d := 27) (v := ?vq4) rfl rfl (by kernel_rfl) (by kernel_rfl) (by kernel_rfl) (fun _ _ _ h => h) (Or.inl ⟨by rfl, ?yq4⟩) hHeld ?rq4
      case yq4 => (intro w hSw; (try dsimp only at hSw); obtain ⟨hSw1, hSw2, hSw3⟩ := hSw; go_simp; try with_reducible rfl)
      simp only [Act.put, List.setIfInBounds_toArray, List.set_cons_zero, List.set_cons_succ]
      refine take_at (i := 4) (d := 28) (v := ?vq5) rfl rfl (by kernel_rfl) (by kernel_rfl) (by kernel_rfl) (fun _ _ _ h => h) (Or.inl ⟨by rfl, ?yq5⟩) hHeld ?rq5
      case yq5 => (intro w hSw; (try dsimp only at hSw); obtain ⟨hSw1, hSw2, hSw3⟩ := hSw; go_simp; try with_reducible rfl)
      simp only [Act.put, List.setIfInBounds_toArray, List.set_cons_zero, List.set_cons_succ]
      refine take_at (i := 5) (d := 29) (v := ?vq6) rfl rfl (by kernel_rfl) (by kernel_rfl) (by kernel_rfl) (fun _ _ _ h => h) (Or.inl ⟨by rfl, ?yq6⟩) hHeld ?rq6
      case yq6 => (intro w hSw; (try dsimp only at hSw); obtain ⟨hSw1, hSw2, hSw3⟩ := hSw; go_simp; try with_reducible rfl)
      simp only [Act.put, List.setIfInBounds_toArray, List.set_cons_zero, List.set_cons_succ]
      refine take_at (i := 6) (d := 30) (v := ?vq7) rfl rfl (by kernel_rfl) (by kernel_rfl) (by kernel_rfl) (fun _ _ _ h => h) (Or.inl ⟨by rfl, ?yq7⟩) hHeld ?rq7
      case yq7 => (intro w hSw; (try dsimp only at hSw); obtain ⟨hSw1, hSw2, hSw3⟩ := hSw; go_simp; try with_reducible rfl)
      simp only [Act.put, List.setIfInBounds_toArray, List.set_cons_zero, List.set_cons_succ]
      refine take_at (i := 7) (d := 31) (v := ?vq8) rfl rfl (by kernel_rfl) (by kernel_rfl) (by kernel_rfl) (fun _ _ _ h => h) (Or.inl ⟨by rfl, ?yq8⟩) hHeld ?rq8
      case yq8 => (intro w hSw; (try dsimp only at hSw); obtain ⟨hSw1, hSw2, hSw3⟩ := hSw; go_simp; try with_reducible rfl)
      simp only [Act.put, List.setIfInBounds_toArray, List.set_cons_zero, List.set_cons_succ]
      refine take_at (i := 8) (d := 32) (v := ?vq9) rfl rfl (by kernel_rfl) (by kernel_rfl) (by kernel_rfl) (fun _ _ _ h => h) (Or.inl ⟨by rfl, ?yq9⟩) hHeld ?rq9
      case yq9 => (intro w hSw; (try dsimp only at hSw); obtain ⟨hSw1, hSw2, hSw3⟩ := hSw; go_simp; try with_reducible rfl)
      simp only [Act.put, List.setIfInBounds_toArray, List.set_cons_zero, List.set_cons_succ]
      refine take_at (i := 9) (d := 33) (v := ?vq10) rfl rfl (by kernel_rfl) (by kernel_rfl) (by kernel_rfl) (fun _ _ _ h => h) (Or.inl ⟨by rfl, ?yq10⟩) hHeld ?rq10
      case yq10 => (intro w hSw; (try dsimp only at hSw); obtain ⟨hSw1, hSw2, hSw3⟩ := hSw; go_simp; try with_reducible rfl)
      simp only [Act.put, List.setIfInBounds_toArray, List.set_cons_zero, List.set_cons_succ]
      refine take_at (i := 10) (d := 34) (v := ?vq11) rfl rfl (by kernel_rfl) (by kernel_rfl) (by kernel_rfl) (fun _ _ _ h => h) (Or.inl ⟨by rfl, ?yq11⟩) hHeld ?rq11
      case yq11 => (intro w hSw; (try dsimp only at hSw); obtain ⟨hSw1, hSw2, hSw3⟩ := hSw; go_simp; try with_reducible rfl)
      simp only [Act.put, List.setIfInBounds_toArray, List.set_cons_zero, List.set_cons_succ]
      refine wpAnyH_ready (rs := [11]) (by kernel_rfl) (by simp) ?_
      refine AllReadyH.cons (o := { dst := some 35, op := Op.call { callee := Callee.value (Operand.func 18), args := #[Operand.tmp 30, Operand.tmp 34], argTypes := #[3, 31] }, type := 38, pos := "law.go:88", after := #[{ on := 6, ground := Ground.data }, { on := 10, ground := Ground.data }], guard := none }) rfl (fun K hK => ?_) ?_
      · go_simp
        refine CR.out.mono ?_
        rintro e w3 ⟨v3, rfl, hs3, hb3⟩
        obtain ⟨A3, c3, rfl⟩ := hs3.formS
        have h1 := (hb3.cell (p := ⟨w1.heap.size, 1, none⟩) (by show w1.heap.size < w2.heap.size; omega)).trans b1
        have h11 := (hb3.cell (p := ⟨w.heap.size, 11, none⟩) (by show w.heap.size < w2.heap.size; omega)).trans a11
        have h12 := (hb3.cell (p := ⟨w.heap.size, 12, none⟩) (by show w.heap.size < w2.heap.size; omega)).trans a12
        have h6 := (hb3.cell (p := ⟨g, k * 4 + 3, none⟩) (by show g < w2.heap.size; omega)).trans aw
        have f6 := (hb3.frozen (p := ⟨g, k * 4 + 3, none⟩) (by show g < w2.heap.size; omega)).trans fw
        have FB := Lib.hid (FIN.out w3 A3 c3 hs3 hb3)
        clear hs3 hb3
        go_wp2_with fail
        refine hK.out _ _ ?_ (fun hHeld => ?_)
        · exact ⟨h1, h11, h12⟩
        clear hK K
        try simp only [Act.put, List.setIfInBounds_toArray, List.set_cons_zero, List.set_cons_succ]
        refine take_at (i := 12) (d := 36) (v := ?vz1) rfl rfl (by kernel_rfl) (by kernel_rfl) (by kernel_rfl) (fun _ _ _ h => h) (Or.inl ⟨by rfl, ?yz1⟩) hHeld ?rz1
        case yz1 => (intro w hSw; (try dsimp only at hSw); obtain ⟨hSw1, hSw2, hSw3⟩ := hSw; go_simp; try with_reducible rfl)
        simp only [Act.put, List.setIfInBounds_toArray, List.set_cons_zero, List.set_cons_succ]
        refine take_at (i := 13) (d := 37) (v := ?vz2) rfl rfl (by kernel_rfl) (by kernel_rfl) (by kernel_rfl) (fun _ _ _ h => h) (Or.inl ⟨by rfl, ?yz2⟩) hHeld ?rz2
        case yz2 => (intro w hSw; (try dsimp only at hSw); obtain ⟨hSw1, hSw2, hSw3⟩ := hSw; go_simp; try with_reducible rfl)
        simp only [Act.put, List.setIfInBounds_toArray, List.set_cons_zero, List.set_cons_succ]
        refine wpAnyH_ready (rs := [14]) (by kernel_rfl) (by simp) ?_
        refine AllReadyH.cons (o := { dst := none, op := Op.store 38 (Operand.tmp 37) (Operand.tmp 35), type := 0, pos := "law.go:88", after := #[{ on := 13, ground := Ground.data }, { on := 11, ground := Ground.data }, { on := 11, ground := Ground.chain }, { on := 0, ground := Ground.phase }, { on := 1, ground := Ground.phase }, { on := 2, ground := Ground.phase }, { on := 3, ground := Ground.phase }, { on := 4, ground := Ground.phase }, { on := 5, ground := Ground.phase }, { on := 6, ground := Ground.phase }, { on := 7, ground := Ground.phase }, { on := 8, ground := Ground.phase }, { on := 9, ground := Ground.phase }, { on := 10, ground := Ground.phase }, { on := 11, ground := Ground.phase }], guard := none }) rfl (fun K hK => ?_) ?_
        · go_simp
          refine hK.out _ _ ?_ (fun hHeld => ?_)
          · exact STK.out _ _ ⟨h1, h11, h12⟩
          clear hK K
          try simp only [Act.put, List.setIfInBounds_toArray, List.set_cons_zero, List.set_cons_succ]
          refine wpAnyH_done (by kernel_rfl) ?_ _
          obtain ⟨wf, hwf⟩ : ∃ wf, wf = w3.setCell ⟨g, k * 4 + 3, none⟩ (.slice A3 1 c3) := ⟨_, rfl⟩
          rw [← hwf] at FB
          have hwf' := hwf.symm
          try simp only [List.length_cons, List.length_nil, Nat.zero_add]
          rw [hwf']
          clear hwf hwf' h1 h11 h12 h6 f6 e0 e1 e2 e3 g0 g1 g2 g3 b0 b1 b2 b3
          obtain ⟨b0, b1, b2, b3⟩ := FB.out.box
          obtain ⟨⟨r0, e0⟩, g0⟩ := FB.out.cells (o := 0) (by omega)
          obtain ⟨⟨r1, e1⟩, g1⟩ := FB.out.cells (o := 1) (by omega)
          obtain ⟨⟨r2, e2⟩, g2⟩ := FB.out.cells (o := 2) (by omega)
          obtain ⟨⟨r3, e3⟩, g3⟩ := FB.out.cells (o := 3) (by omega)
          have lt3 := FB.out.lt
          have FD := Lib.hid (fun a b c d => FB.out.done a b c d (k : Int) (by omega))
          rw [hv2, hlk, hou, hu2l] at FD
          rw [hv2] at b0
          rw [hu2l] at b1
          rw [hou] at b2
          rw [hlk] at b3
          go_wp2_with fail
          obtain ⟨d0, d1, d2, d3⟩ := done4 (.int .u32 u.ver) (.slice (some ⟨g, 0, none⟩) n ci) (.slice Ao u.outs.length co) (.int .u32 u.lock) e0 e1 e2 e3
          refine bodyPost_ret (v := .tuple #[.agg #[.int .u32 u.ver, .slice (some ⟨g, 0, none⟩) n ci, .slice Ao u.outs.length co, .int .u32 u.lock], .int .i64 (k : Int)]) (by simp [results, Try.results22, go_sem, d0, d1, d2, d3]) rfl ?_
          exact FD.out _ _ _ _
        exact AllReadyH.nil
      exact AllReadyH.nil


end Go.Proofs.Ytdldhfhhhjenkaa
