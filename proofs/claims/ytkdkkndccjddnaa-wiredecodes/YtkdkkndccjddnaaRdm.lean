/-
  The document's Decode: how its boxes and lists lie.
-/
import Derived.Test.YtkdkkndccjddnaaRinz
import Derived.Test.YtkdkkndccjddnaaPlawc
namespace Go.Proofs.Ytkdkkndccjddnaa
open Go.RowKit

/-- The result's box, the state's, the transaction's. -/
structure DrB (w : World) (z : St) (v0 vi vo lk : Value) (wr : World) : Prop where
  rb : Open wr w.heap.size (.int .u32 0) (.slice none 0 0) (.slice none 0 0) (.int .u32 0)
  zb : Two2 wr (w.heap.size + 1) (.int .i64 z.a) (.int .i64 z.e)
  tb : Open wr (w.heap.size + 2) v0 vi vo lk
  le : w.heap.size + 3 ≤ wr.heap.size
  bel : Below w.heap.size w wr
section
variable {w wr wx : World} {z : St} {v0 vi vo lk : Value}
theorem Two2.low {W : World} {b : Nat} {u v : Value} (h : Two2 W b u v) (x : Value) : Two2 (W.setCell ⟨b, 0, none⟩ x) b x v :=
  ⟨World.cell?_setCell_same _ _ _ h.1, (World.cell?_setCell_other _ _ _ _ (by simp)).trans h.2.1, fun o => (frozen_setCell _ _ _ _).trans (h.2.2 o)⟩
theorem Two2.high {W : World} {b : Nat} {u v : Value} (h : Two2 W b u v) (x : Value) : Two2 (W.setCell ⟨b, 1, none⟩ x) b u x :=
  ⟨(World.cell?_setCell_other _ _ _ _ (by simp)).trans h.1, World.cell?_setCell_same _ _ _ h.2.1, fun o => (frozen_setCell _ _ _ _).trans (h.2.2 o)⟩
theorem Two2.other {W : World} {b g o : Nat} {u v : Value} (h : Two2 W b u v) (hb : b ≠ g) (x : Value) : Two2 (W.setCell ⟨g, o, none⟩ x) b u v := h.keep (Below.heap_setCell _ _ _ _ hb)
theorem DrB.below {B : Nat} (h : DrB w z v0 vi vo lk wr) (hb : Below B wr wx) (hB : w.heap.size + 3 ≤ B) : DrB w z v0 vi vo lk wx := by
  have hl := h.le
  refine ⟨h.rb.below hb (by omega), h.zb.keep (hb.block _ (by omega)), h.tb.below hb (by omega), Nat.le_trans hl hb.size, ⟨hb.os.trans h.bel.os, hb.tape.trans h.bel.tape, hb.output.trans h.bel.output, Nat.le_trans h.bel.size hb.size, fun c hc => (hb.block c (by omega)).trans (h.bel.block c hc)⟩⟩
theorem DrB.put (h : DrB w z v0 vi vo lk wr) (z' : St) : DrB w z' v0 vi vo lk ((wr.setCell ⟨w.heap.size + 1, 0, none⟩ (.int .i64 z'.a)).setCell ⟨w.heap.size + 1, 1, none⟩ (.int .i64 z'.e)) :=
  ⟨(h.rb.other (by show w.heap.size ≠ w.heap.size + 1; omega) _).other (by show w.heap.size ≠ w.heap.size + 1; omega) _, h.zb.put _ _, (h.tb.other (by show w.heap.size + 2 ≠ w.heap.size + 1; omega) _).other (by show w.heap.size + 2 ≠ w.heap.size + 1; omega) _, by rw [World.size_setCell, World.size_setCell]; exact h.le, (h.bel.setCell (p := ⟨w.heap.size + 1, 0, none⟩) (by show w.heap.size ≤ w.heap.size + 1; omega) _).setCell (p := ⟨w.heap.size + 1, 1, none⟩) (by show w.heap.size ≤ w.heap.size + 1; omega) _⟩
theorem DrB.putA (h : DrB w z v0 vi vo lk wr) (a' : Nat) : DrB w ⟨a', z.e⟩ v0 vi vo lk (wr.setCell ⟨w.heap.size + 1, 0, none⟩ (.int .i64 a')) :=
  ⟨h.rb.other (by show w.heap.size ≠ w.heap.size + 1; omega) _, h.zb.low _, h.tb.other (by show w.heap.size + 2 ≠ w.heap.size + 1; omega) _, by rw [World.size_setCell]; exact h.le, h.bel.setCell (p := ⟨w.heap.size + 1, 0, none⟩) (by show w.heap.size ≤ w.heap.size + 1; omega) _⟩
theorem DrB.putE (h : DrB w z v0 vi vo lk wr) (e' : Int) : DrB w ⟨z.a, e'⟩ v0 vi vo lk (wr.setCell ⟨w.heap.size + 1, 1, none⟩ (.int .i64 e')) :=
  ⟨h.rb.other (by show w.heap.size ≠ w.heap.size + 1; omega) _, h.zb.high _, h.tb.other (by show w.heap.size + 2 ≠ w.heap.size + 1; omega) _, by rw [World.size_setCell]; exact h.le, h.bel.setCell (p := ⟨w.heap.size + 1, 1, none⟩) (by show w.heap.size ≤ w.heap.size + 1; omega) _⟩
theorem DrB.set {u0 u1 u2 u3 : Value} (h : DrB w z v0 vi vo lk wr) {o : Nat} {x : Value} (ht : Open (wr.setCell ⟨w.heap.size + 2, o, none⟩ x) (w.heap.size + 2) u0 u1 u2 u3) : DrB w z u0 u1 u2 u3 (wr.setCell ⟨w.heap.size + 2, o, none⟩ x) :=
  ⟨h.rb.other (by show w.heap.size ≠ w.heap.size + 2; omega) _, h.zb.other (by omega) _, ht, by rw [World.size_setCell]; exact h.le, h.bel.setCell (p := ⟨w.heap.size + 2, o, none⟩) (by show w.heap.size ≤ w.heap.size + 2; omega) _⟩
theorem DrB.far (h : DrB w z v0 vi vo lk wr) {g o : Nat} (hg : w.heap.size + 3 ≤ g) (x : Value) : DrB w z v0 vi vo lk (wr.setCell ⟨g, o, none⟩ x) :=
  ⟨h.rb.other (by show w.heap.size ≠ g; omega) _, h.zb.other (by omega) _, h.tb.other (by show w.heap.size + 2 ≠ g; omega) _, by rw [World.size_setCell]; exact h.le, h.bel.setCell (p := ⟨g, o, none⟩) (by show w.heap.size ≤ g; omega) _⟩
end

/-- Where the Witnesses' reading stands: i of them are whole, ps is what the next one has. -/
structure WtS (w : World) (v0 : Value) (g n cap : Nat) (Ao : Option Addr) (co : Nat) (F : Nat → InD) (os : List OutD) (T0 T : Nat) (W : Nat → List ByteArray) (i : Nat) (ps : List ByteArray) (z : St) (wr : World) : Prop where
  b : DrB w z v0 (.slice (some ⟨g, 0, none⟩) n cap) (.slice Ao os.length co) (.int .u32 0) wr
  blk : ∃ cur, wr.heap[g]? = some (.cells cur 47 (0, 0))
  at' : ∀ j, j < n → wr.cell? ⟨g, j * 4, none⟩ = some (.string (F j).id) ∧ wr.cell? ⟨g, j * 4 + 1, none⟩ = some (.int .u32 (F j).ix) ∧ wr.cell? ⟨g, j * 4 + 2, none⟩ = some (.int .u32 (F j).sq)
  old : ∀ j, j < i → j < n → ∃ u, wr.cell? ⟨g, j * 4 + 3, none⟩ = some u ∧ Strs wr T0 T u (W j)
  cur : i < n → ∃ u, wr.cell? ⟨g, i * 4 + 3, none⟩ = some u ∧ wr.ownsRow T 9 1 u ps.length (ps.map Value.string)
  new : ∀ j, i < j → j < n → wr.cell? ⟨g, j * 4 + 3, none⟩ = some (.slice none 0 0)
  ou : os = [] ∨ ∃ go cur, Ao = some ⟨go, 0, none⟩ ∧ go ≠ g ∧ w.heap.size + 3 ≤ go ∧ go < T0 ∧ wr.heap[go]? = some (.cells cur 51 (0, 0)) ∧ ∀ j x, os[j]? = some x → OutAt wr go (j * 2) x
  lt : w.heap.size + 3 ≤ g ∧ g < T0 ∧ T0 ≤ T ∧ T ≤ wr.heap.size
section
variable {w wr wx : World} {v0 : Value} {g n cap : Nat} {Ao : Option Addr} {co : Nat} {F : Nat → InD} {os : List OutD} {T0 T : Nat} {W : Nat → List ByteArray} {i : Nat} {ps : List ByteArray} {z : St}
theorem own_below {w w' : World} {base : Nat} {e : TypeId} {size n : Nat} {v : Value} {xs : List Value} (h : w.ownsRow base e size v n xs) (hb : Below w.heap.size w w') : w'.ownsRow base e size v n xs :=
  ((OwnAt.of_own h).keep (StayE.of_below hb (Nat.le_refl _)) hb.size).1
theorem WtS.below (h : WtS w v0 g n cap Ao co F os T0 T W i ps z wr) (hb : Below wr.heap.size wr wx) : WtS w v0 g n cap Ao co F os T0 T W i ps z wx := by
  obtain ⟨l1, l2, l3, l4⟩ := h.lt
  have hz := hb.size
  have f : ∀ p, wx.cell? ⟨g, p, none⟩ = wr.cell? ⟨g, p, none⟩ := fun p => hb.cell (p := ⟨g, p, none⟩) (by show g < _; omega)
  obtain ⟨cu, hcu⟩ := h.blk
  refine ⟨h.b.below hb h.b.le, ⟨cu, (hb.block g (by omega)).trans hcu⟩, fun j hj => ?_, fun j hj hn => ?_, fun hi => ?_, fun j hj hn => (f _).trans (h.new j hj hn), ?_, ⟨l1, l2, l3, by omega⟩⟩
  · rw [f, f, f]; exact h.at' j hj
  · obtain ⟨u, hu, hs⟩ := h.old j hj hn
    exact ⟨u, (f _).trans hu, hs.keep (Kept.of_below hb (by omega))⟩
  · obtain ⟨u, hu, hs⟩ := h.cur hi
    exact ⟨u, (f _).trans hu, own_below hs hb⟩
  · rcases h.ou with h0 | ⟨go, cur, e, hne, h1, h2, hc, ha⟩
    · exact .inl h0
    · have f2 : ∀ p, wx.cell? ⟨go, p, none⟩ = wr.cell? ⟨go, p, none⟩ := fun p => hb.cell (p := ⟨go, p, none⟩) (by show go < _; omega)
      exact .inr ⟨go, cur, e, hne, h1, h2, (hb.block go (by omega)).trans hc, fun j x hx => ⟨(f2 _).trans (ha j x hx).1, (f2 _).trans (ha j x hx).2⟩⟩
/-- The state is written. -/
theorem WtS.put (h : WtS w v0 g n cap Ao co F os T0 T W i ps z wr) (z' : St) : WtS w v0 g n cap Ao co F os T0 T W i ps z' ((wr.setCell ⟨w.heap.size + 1, 0, none⟩ (.int .i64 z'.a)).setCell ⟨w.heap.size + 1, 1, none⟩ (.int .i64 z'.e)) := by
  obtain ⟨l1, l2, l3, l4⟩ := h.lt
  have hk : ∀ c, c ≠ w.heap.size + 1 → ((wr.setCell ⟨w.heap.size + 1, 0, none⟩ (.int .i64 z'.a)).setCell ⟨w.heap.size + 1, 1, none⟩ (.int .i64 z'.e)).heap[c]? = wr.heap[c]? := fun c hc => (Below.heap_setCell _ _ _ _ hc).trans (Below.heap_setCell _ _ _ _ hc)
  have f : ∀ c p, c ≠ w.heap.size + 1 → ((wr.setCell ⟨w.heap.size + 1, 0, none⟩ (.int .i64 z'.a)).setCell ⟨w.heap.size + 1, 1, none⟩ (.int .i64 z'.e)).cell? ⟨c, p, none⟩ = wr.cell? ⟨c, p, none⟩ := fun c p hc => World.cell?_of_block (w := wr) (hk c hc)
  have hkk : ∀ lo hi, w.heap.size + 2 ≤ lo → Kept lo hi wr ((wr.setCell ⟨w.heap.size + 1, 0, none⟩ (.int .i64 z'.a)).setCell ⟨w.heap.size + 1, 1, none⟩ (.int .i64 z'.e)) := fun lo hi hlo c h1 h2 => hk c (by omega)
  obtain ⟨cu, hcu⟩ := h.blk
  refine ⟨h.b.put z', ⟨cu, (hk g (by omega)).trans hcu⟩, fun j hj => ?_, fun j hj hn => ?_, fun hi => ?_, fun j hj hn => (f _ _ (by omega)).trans (h.new j hj hn), ?_, ⟨l1, l2, l3, by rw [World.size_setCell, World.size_setCell]; exact l4⟩⟩
  · rw [f _ _ (by omega), f _ _ (by omega), f _ _ (by omega)]; exact h.at' j hj
  · obtain ⟨u, hu, hs⟩ := h.old j hj hn
    exact ⟨u, (f _ _ (by omega)).trans hu, hs.keep (hkk _ _ (by omega))⟩
  · obtain ⟨u, hu, hs⟩ := h.cur hi
    refine ⟨u, (f _ _ (by omega)).trans hu, ((OwnAt.of_own hs).keep (top' := wr.heap.size) ?_ (Nat.le_refl _)).1⟩
    exact fun c _ h1 _ _ => hk c (by omega)
  · rcases h.ou with h0 | ⟨go, cur, e, hne, h1, h2, hc, ha⟩
    · exact .inl h0
    · exact .inr ⟨go, cur, e, hne, h1, h2, (hk go (by omega)).trans hc, fun j x hx => ⟨(f _ _ (by omega)).trans (ha j x hx).1, (f _ _ (by omega)).trans (ha j x hx).2⟩⟩
/-- One text more. -/
theorem WtS.app {wA w1 : World} {u v' : Value} {p : ByteArray} (h : WtS w v0 g n cap Ao co F os T0 T W i ps z wr) (hu : wr.cell? ⟨g, i * 4 + 3, none⟩ = some u) (hus : wr.ownsRow T 9 1 u ps.length (ps.map Value.string)) (hA : Below wr.heap.size wr wA) (hgrow : wA.grownBy w1 u.ownBlock)
    (hown' : w1.ownsRow T 9 1 v' (ps.length + 1) (ps.map Value.string ++ [.string p])) : WtS w v0 g n cap Ao co F os T0 T W i (ps ++ [p]) z (w1.setCell ⟨g, i * 4 + 3, none⟩ v') := by
  obtain ⟨l1, l2, l3, l4⟩ := h.lt
  have hB : Below T wr w1 := (hA.mono l4).grown hgrow (by have := hA.size; omega) (own_block hus)
  have hz := hB.size
  have hz1 : (w1.setCell ⟨g, i * 4 + 3, none⟩ v').heap.size = w1.heap.size := World.size_setCell _ _ _
  have f : ∀ q, q ≠ i * 4 + 3 → (w1.setCell ⟨g, i * 4 + 3, none⟩ v').cell? ⟨g, q, none⟩ = wr.cell? ⟨g, q, none⟩ := fun q hq => (World.cell?_setCell_other _ _ _ _ (by intro e; injection e with _ e; exact hq e.symm)).trans (hB.cell (p := ⟨g, q, none⟩) (by show g < T; omega))
  have hk : ∀ c, c < T → c ≠ g → (w1.setCell ⟨g, i * 4 + 3, none⟩ v').heap[c]? = wr.heap[c]? := fun c h1 h2 => (Below.heap_setCell _ _ _ _ h2).trans (hB.block c h1)
  have c1 : w1.cell? ⟨g, i * 4 + 3, none⟩ = some u := (hB.cell (p := ⟨g, i * 4 + 3, none⟩) (by show g < T; omega)).trans hu
  obtain ⟨cu, hcu⟩ := h.blk
  refine ⟨(h.b.below hB (by omega)).far l1 _, ⟨cu.setIfInBounds (i * 4 + 3) v', by simp [World.setCell, Array.getElem?_modify, (hB.block g (by omega)).trans hcu]⟩, fun j hj => ?_, fun j hj hn => ?_, fun _ => ?_, fun j hj hn => (f _ (by omega)).trans (h.new j hj hn), ?_, ⟨l1, l2, l3, by omega⟩⟩
  · rw [f _ (by omega), f _ (by omega), f _ (by omega)]; exact h.at' j hj
  · obtain ⟨u', hu', hs⟩ := h.old j hj hn
    exact ⟨u', (f _ (by omega)).trans hu', hs.keep (fun c h1 h2 => hk c h2 (by omega))⟩
  · refine ⟨v', World.cell?_setCell_same _ _ _ c1, ?_⟩
    have q : (w1.setCell ⟨g, i * 4 + 3, none⟩ v').ownsRow T 9 1 v' (ps.length + 1) (ps.map Value.string ++ [.string p]) := ((OwnAt.of_own hown').keep (top' := w1.heap.size) (fun c _ h1 _ _ => Below.heap_setCell _ _ _ _ (by show c ≠ g; omega)) (Nat.le_refl _)).1
    rw [List.length_append, List.map_append]
    exact q
  · rcases h.ou with h0 | ⟨go, cur, e, hne, h1, h2, hc, ha⟩
    · exact .inl h0
    · have f2 : ∀ q, (w1.setCell ⟨g, i * 4 + 3, none⟩ v').cell? ⟨go, q, none⟩ = wr.cell? ⟨go, q, none⟩ := fun q => World.cell?_of_block (w := wr) (hk go (by omega) hne)
      exact .inr ⟨go, cur, e, hne, h1, h2, (hk go (by omega) hne).trans hc, fun j x hx => ⟨(f2 _).trans (ha j x hx).1, (f2 _).trans (ha j x hx).2⟩⟩
/-- One Witness more. -/
theorem WtS.next (h : WtS w v0 g n cap Ao co F os T0 T W i ps z wr) (hW : W i = ps) : WtS w v0 g n cap Ao co F os T0 wr.heap.size W (i + 1) [] z wr := by
  obtain ⟨l1, l2, l3, l4⟩ := h.lt
  refine ⟨h.b, h.blk, h.at', fun j hj hn => ?_, fun hi => ⟨.slice none 0 0, h.new (i + 1) (by omega) hi, World.ownsRow_nil _ _ 9 1⟩, fun j hj hn => h.new j (by omega) hn, h.ou, ⟨l1, l2, by omega, Nat.le_refl _⟩⟩
  by_cases e : j = i
  · subst e
    obtain ⟨u, hu, hs⟩ := h.cur hn
    rw [hW]
    exact ⟨u, hu, (StrOwn.strs (base := T) (OwnAt.of_own hs)).wide l3 (Nat.le_refl _)⟩
  · obtain ⟨u, hu, hs⟩ := h.old j (by omega) hn
    exact ⟨u, hu, hs.wide (Nat.le_refl _) l4⟩
/-- All of them. -/
theorem WtS.tx (h : WtS w v0 g n cap Ao co F os T0 T W i ps z wr) (hi : n ≤ i) (hcap : n ≤ cap) (hco : os.length ≤ co) (ver lock : Int) :
    TxAt wr (w.heap.size + 3) wr.heap.size (.slice (some ⟨g, 0, none⟩) n cap) (.slice Ao os.length co) ⟨ver, (List.range n).map (fun j => ⟨(F j).id, (F j).ix, (F j).sq, W j⟩), os, lock⟩ := by
  obtain ⟨l1, l2, l3, l4⟩ := h.lt
  refine ⟨⟨_, cap, by simp, by simpa using hcap, .inr ⟨g, 0, rfl, l1, by omega, fun k x hx => ?_⟩⟩, ⟨Ao, co, rfl, hco, ?_⟩⟩
  · obtain ⟨hk, rfl⟩ := range_get hx
    obtain ⟨a0, a1, a2⟩ := h.at' k hk
    obtain ⟨u, hu, hs⟩ := h.old k (by omega) hk
    rw [Nat.zero_add]
    exact ⟨a0, a1, a2, u, hu, hs.wide (by omega) l4⟩
  · rcases h.ou with h0 | ⟨go, cur, e, hne, h1, h2, hc, ha⟩
    · exact .inl h0
    · exact .inr ⟨go, 0, e, h1, by omega, fun j x hx => by rw [Nat.zero_add]; exact ha j x hx⟩
/-- Where it begins. -/
theorem wtS_new {vi vo : Value} (hb : DrB w z v0 vi vo (.int .u32 0) wr) (hin : InsNil wr (w.heap.size + 3) wr.heap.size vi ((List.range n).map F)) (hou : OutsOwn wr (w.heap.size + 3) wr.heap.size vo os) (hn : 1 ≤ n) :
    ∃ g cap Ao co, vi = .slice (some ⟨g, 0, none⟩) n cap ∧ n ≤ cap ∧ vo = .slice Ao os.length co ∧ os.length ≤ co ∧ WtS w v0 g n cap Ao co F os wr.heap.size wr.heap.size W 0 [] z wr := by
  obtain ⟨cells, ⟨hown, htop⟩, hall⟩ := hin
  rw [List.length_map, List.length_range] at hown
  obtain ⟨oc, ⟨oown, otop⟩, oall⟩ := hou
  rcases hown.2 with ⟨_, h0⟩ | ⟨g, cap, cur, rfl, hbase, hg, hncap, hmax, hsz, htk⟩
  · omega
  have hgl := htop g rfl
  have hc := hown.cells (g := g) rfl
  have at4 : ∀ j, j < n → wr.cell? ⟨g, j * 4, none⟩ = some (.string (F j).id) ∧ wr.cell? ⟨g, j * 4 + 1, none⟩ = some (.int .u32 (F j).ix) ∧ wr.cell? ⟨g, j * 4 + 2, none⟩ = some (.int .u32 (F j).sq) ∧ wr.cell? ⟨g, j * 4 + 3, none⟩ = some (.slice none 0 0) := by
    intro j hj
    obtain ⟨c0, c1, c2, c3⟩ := hall j (F j) (by simp [hj])
    have a0 := hc _ _ c0
    have a1 := hc _ _ c1
    have a2 := hc _ _ c2
    have a3 := hc _ _ c3
    simp only [Addr.add_lit, Nat.zero_add] at a0 a1 a2 a3
    exact ⟨a0, a1, a2, a3⟩
  obtain ⟨Ao, co, rfl⟩ := own_form oown
  have hco : os.length ≤ co := by
    rcases oown.2 with ⟨e, h0⟩ | ⟨_, _, _, e, _, _, h1, _⟩
    · omega
    · injection e with _ _ e; omega
  refine ⟨g, cap, Ao, co, rfl, hncap, rfl, hco, hb, ⟨cur, hg⟩, fun j hj => ⟨(at4 j hj).1, (at4 j hj).2.1, (at4 j hj).2.2.1⟩, fun j hj => absurd hj (Nat.not_lt_zero _), fun hi => ⟨_, (at4 0 hi).2.2.2, World.ownsRow_nil _ _ 9 1⟩, fun j _ hj => (at4 j hj).2.2.2, ?_, ⟨hbase, hgl, Nat.le_refl _, Nat.le_refl _⟩⟩
  rcases oown.2 with ⟨e, h0⟩ | ⟨go, cap2, cur2, e, hb2, hg2, _⟩
  · exact .inl (List.eq_nil_of_length_eq_zero h0)
  · injection e with e1 e2 e3
    subst e1
    refine .inr ⟨go, cur2, rfl, ?_, hb2, otop go rfl, hg2, fun j x hx => ?_⟩
    · intro e
      rw [e, hg] at hg2
      injection hg2 with hg2
      injection hg2 with _ hg2 _
      cases hg2
    · obtain ⟨c0, c1⟩ := oall j x hx
      have hc2 := oown.cells (g := go) rfl
      have a0 := hc2 _ _ c0
      have a1 := hc2 _ _ c1
      simp only [Addr.add_lit, Nat.zero_add] at a0 a1
      exact ⟨a0, a1⟩
end

end Go.Proofs.Ytkdkkndccjddnaa
