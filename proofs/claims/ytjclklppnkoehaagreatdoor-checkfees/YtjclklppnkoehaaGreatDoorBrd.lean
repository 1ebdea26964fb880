/-
  Branches as plain data, and how they lie in memory; a lock's script as a function; what looks at one branch.
-/
import Derived.Test.YtjclklppnkoehaaGreatDoorOput
import Derived.Test.YtjclklppnkoehaaGreatDoorFind
import Derived.Laws.Concat
namespace Go.Proofs.YtjclklppnkoehaaGreatDoor
open Go.RowKit
set_option maxRecDepth 100000

/-- A world in which all that lay in w lies as it did. -/
structure After (w : World) where
  val : World
  ok : Below w.heap.size w val
/-- A region that draws its order, reads what lay there, and whose callees leave that as it was: one walk of the text's order serves every order. -/
theorem wp_region_after {P : Program} {id : Nat} {Q : Exit → Act → World → Prop} {a : Act} {w : World} {l : List Oper} (hm : P.follows .mixedOrders = true) (hB : Region.lexB .any l.toArray = true)
    (h : wpQuiet P l.toArray (fun w' => ∃ x : After w, w' = x.val) (fun a' => ∀ w', (∃ x : After w, w' = x.val) → Q .normal a' w') l a) : (Code.region id l.toArray true).wp P Q a w :=
  wp_region_quiet (C := fun w' => ∃ x : After w, w' = x.val) hm hB ⟨⟨w.drew, (Below.refl _ w).drew⟩, rfl⟩ (by simpa using h)
theorem After.call {P : Program} {f : FuncId} {args : Array Value} {w : World} {v : Value} (x : After w) (h : Calls P f args x.val fun e w' => e = .returned v ∧ Below x.val.heap.size x.val w') : Calls P f args x.val fun e w'' => e = .returned v ∧ ∃ y : After w, w'' = y.val :=
  h.mono fun _ w' ⟨he, hb⟩ => ⟨he, ⟨w', below_next x.ok x.ok.size hb⟩, rfl⟩

/-- A branch. -/
structure BrD where
  tag : Int
  del : Int
  hgt : Int
def BrD.Ok (x : BrD) : Prop := 0 ≤ x.tag ∧ x.tag ≤ 65535 ∧ 0 ≤ x.del ∧ x.del ≤ 65535 ∧ 0 ≤ x.hgt ∧ x.hgt ≤ 4294967295
/-- Its three cells. -/
def BrAt (w : World) (b o : Nat) (x : BrD) : Prop := w.cell? ⟨b, o, none⟩ = some (.int .u16 x.tag) ∧ w.cell? ⟨b, o + 1, none⟩ = some (.int .u16 x.del) ∧ w.cell? ⟨b, o + 2, none⟩ = some (.int .u32 x.hgt)
theorem BrAt.keep {w w' : World} {lo hi b o : Nat} {x : BrD} (h : BrAt w b o x) (h1 : lo ≤ b) (h2 : b < hi) (hk : Kept lo hi w w') : BrAt w' b o x := ⟨(hk.cell h1 h2).trans h.1, (hk.cell h1 h2).trans h.2.1, (hk.cell h1 h2).trans h.2.2⟩
/-- The branches xs lie in the slice v. -/
def Brs (w : World) (lo hi : Nat) (v : Value) (xs : List BrD) : Prop :=
  ∃ (A : Option Addr) (c : Nat), v = .slice A xs.length c ∧ xs.length ≤ c ∧ (xs = [] ∨ ∃ b off, A = some ⟨b, off, none⟩ ∧ lo ≤ b ∧ b < hi ∧ ∀ k x, xs[k]? = some x → BrAt w b (off + k * 3) x)
theorem Brs.keep {w w' : World} {lo hi : Nat} {v : Value} {xs : List BrD} (h : Brs w lo hi v xs) (hk : Kept lo hi w w') : Brs w' lo hi v xs := by
  obtain ⟨A, c, rfl, hc, h⟩ := h
  refine ⟨A, c, rfl, hc, ?_⟩
  rcases h with h | ⟨b, off, rfl, h1, h2, h⟩
  · exact .inl h
  · exact .inr ⟨b, off, rfl, h1, h2, fun k s hs => (h k s hs).keep h1 h2 hk⟩
theorem Brs.wide {w : World} {lo hi lo' hi' : Nat} {v : Value} {xs : List BrD} (h : Brs w lo hi v xs) (h1 : lo' ≤ lo) (h2 : hi ≤ hi') : Brs w lo' hi' v xs := by
  obtain ⟨A, c, rfl, hc, h⟩ := h
  refine ⟨A, c, rfl, hc, ?_⟩
  rcases h with h | ⟨b, off, rfl, h3, h4, h⟩
  · exact .inl h
  · exact .inr ⟨b, off, rfl, by omega, by omega, h⟩
theorem Brs.nil (w : World) (lo hi : Nat) : Brs w lo hi (.slice none 0 0) [] := ⟨none, 0, rfl, Nat.le_refl _, .inl rfl⟩
theorem Brs.form {w : World} {lo hi : Nat} {v : Value} {xs : List BrD} (h : Brs w lo hi v xs) : ∃ A c, v = .slice A xs.length c := by
  obtain ⟨A, c, rfl, _⟩ := h
  exact ⟨A, c, rfl⟩
theorem Brs.at {w : World} {lo hi : Nat} {A : Option Addr} {n c : Nat} {xs : List BrD} (h : Brs w lo hi (.slice A n c) xs) {k : Nat} {x : BrD} (hx : xs[k]? = some x) :
    ∃ b off, A = some ⟨b, off, none⟩ ∧ lo ≤ b ∧ b < hi ∧ BrAt w b (off + k * 3) x := by
  obtain ⟨A', c', hv, hc, h⟩ := h
  injection hv with hA
  subst hA
  rcases h with rfl | ⟨b, off, rfl, h1, h2, h⟩
  · simp at hx
  · exact ⟨b, off, rfl, h1, h2, h k x hx⟩
theorem Brs.take {w : World} {lo hi : Nat} {A : Option Addr} {n c : Nat} {xs : List BrD} (h : Brs w lo hi (.slice A n c) xs) {p : Nat} (hp : p ≤ xs.length) : Brs w lo hi (.slice A p c) (xs.take p) := by
  obtain ⟨A', c', hv, hc, h⟩ := h
  injection hv with e1 _ e3
  subst e1 e3
  refine ⟨A, c, by rw [List.length_take, Nat.min_eq_left hp], by rw [List.length_take]; omega, ?_⟩
  rcases h with rfl | ⟨b, off, rfl, h1, h2, h⟩
  · exact .inl (by simp)
  · refine .inr ⟨b, off, rfl, h1, h2, fun k x hx => h k x ?_⟩
    rw [List.getElem?_take] at hx
    split at hx
    · exact hx
    · cases hx

/-- Is its Height above the greatest? -/
def highB (x : BrD) : Bool := decide (1000000 < x.hgt)
set_option maxHeartbeats 400000 in
theorem high_any (x : BrD) (w : World) :
    Calls Tryz.prog 86 #[.agg #[.int .u16 x.tag, .int .u16 x.del, .int .u32 x.hgt]] w fun e w' => e = .returned (.bool (highB x)) ∧ Below w.heap.size w w' := by
  obtain ⟨t, d, h⟩ := x
  unfold highB
  go_enter Tryz.func86, Tryz.ntmps86
  go_wp2
  go_ret
  exact ⟨rfl, (Below.refl _ _).alloc (Nat.le_refl _) _⟩
theorem eg28 : ∀ args w, (callFunc 86 args).run Tryz.prog w = .ok (.enter 86 args) w := enters_of Tryz.func86 (by kernel_rfl) rfl

set_option maxHeartbeats 1000000 in
theorem find_br (A : Option Addr) (n c : Nat) (xs : List BrD) (w : World) (lo hi : Nat) (hx : Brs w lo hi (.slice A n c) xs) (hhi : hi ≤ w.heap.size) (hl : xs.length ≤ 512) :
    Calls Tryz.prog 88 #[.slice A n c, .func (.func 86) #[] #[]] w fun e w' => e = .returned (.int .i64 (idxOf highB xs)) ∧ Below w.heap.size w w' := by
  obtain rfl : n = xs.length := by obtain ⟨_, _, hv, _⟩ := hx; injection hv
  have eg := eg28
  have HX := Lib.hid hx
  clear hx
  go_enter Tryz.func88, Tryz.ntmps88
  go_wp2
  go_loopg [5, 8] xs.length (fun gg _ s8 wr => ∃ kk : Nat, kk ≤ xs.length ∧ xs.length - kk ≤ gg ∧ s8 = .int .i64 kk ∧ Hid (Below w.heap.size w wr) ∧ Hid (∀ (j : Nat) (y : BrD), j < kk → xs[j]? = some y → highB y = false))
  case atStart => exact ⟨0, Nat.zero_le _, by omega, rfl, Below.refl _ w, fun j _ hj => absurd hj (Nat.not_lt_zero _)⟩
  case round =>
    obtain ⟨kk, hkk, hg, rfl, BW, A0⟩ := hrel
    by_cases hlt : kk < xs.length
    · have hltz : (kk : Int) < (xs.length : Int) := by omega
      obtain ⟨x, hxk⟩ : ∃ x, xs[kk]? = some x := ⟨_, List.getElem?_eq_getElem hlt⟩
      obtain ⟨b, off, rfl, h1, h2, c0, c1, c2⟩ := (HX.out.keep (Kept.of_below BW.out hhi)).at hxk
      have hcall := high_any x wr
      have HXK := Lib.hid hxk
      clear hxk
      cases hq : highB x with
      | true =>
        rw [hq] at hcall
        go_wp2_with (go_at_fn 86; refine hcall.mono ?_; rintro e w' ⟨rfl, hb'⟩)
        go_ret
        exact ⟨ret_int (by rw [idxOf_hit HXK.out hq A0.out]), below_next BW.out BW.out.size hb'⟩
      | false =>
        rw [hq] at hcall
        go_wp2_with (go_at_fn 86; refine hcall.mono ?_; rintro e w' ⟨rfl, hb'⟩)
        go_roundg (xs.length - (kk + 1))
        case measure => omega
        case rel =>
          refine ⟨kk + 1, by omega, by omega, by go_num, below_next BW.out BW.out.size hb', (show Hid _ from fun j y hj hy => ?_)⟩
          by_cases e : j = kk
          · subst e
            rw [HXK.out] at hy
            injection hy with hy
            subst hy
            exact hq
          · exact A0.out j y (by omega) hy
    · have hltz : ¬ (kk : Int) < (xs.length : Int) := by omega
      have : kk = xs.length := by omega
      subst this
      go_wp2
      go_ret
      refine ⟨ret_int ?_, BW.out⟩
      rw [idxOf_miss (fun j y hy => A0.out j y (List.getElem?_eq_some_iff.1 hy).1 hy)]

set_option maxHeartbeats 400000 in
theorem has_br (A : Option Addr) (n c : Nat) (xs : List BrD) (w : World) (lo hi : Nat) (hx : Brs w lo hi (.slice A n c) xs) (hhi : hi ≤ w.heap.size) (hl : xs.length ≤ 512) :
    Calls Tryz.prog 85 #[.slice A n c, .func (.func 86) #[] #[]] w fun e w' => e = .returned (.bool (xs.any highB)) ∧ Below w.heap.size w w' := by
  rw [← idxOf_any]
  have HF := Lib.hid (find_br A n c xs w lo hi hx hhi hl)
  generalize idxOf highB xs = r at HF
  clear hx
  go_enter Tryz.func85, Tryz.ntmps85
  go_wp2_with fail
  refine HF.out.mono ?_
  rintro e w' ⟨rfl, hb'⟩
  go_wp2
  go_ret
  exact ⟨rfl, hb'⟩

/-- Texts one behind the other. -/
def catL {α : Type} (f : α → ByteArray) : List α → ByteArray
  | [] => ByteArray.empty
  | x :: r => f x ++ catL f r
theorem catL_append {α : Type} (f : α → ByteArray) (xs ys : List α) : catL f (xs ++ ys) = catL f xs ++ catL f ys := by
  induction xs with
  | nil => simp [catL]
  | cons x r ih => simp only [List.cons_append, catL, ih, ByteArray.append_assoc]
theorem catL_step {α : Type} (f : α → ByteArray) {xs : List α} {k : Nat} {x : α} (h : xs[k]? = some x) : catL f (xs.take (k + 1)) = catL f (xs.take k) ++ f x := by
  have e : xs.take (k + 1) = xs.take k ++ [x] := by
    rw [List.take_add_one, h]
    rfl
  rw [e, catL_append]
  simp [catL]
/-- A branch's bytes; a lock's script, and its error. -/
def brS (x : BrD) : ByteArray := Oc.putS x.tag 2 ++ Oc.putS x.del 2 ++ Oc.putS x.hgt 4
def scr (xs : List BrD) : ByteArray := Oc.putS (xs.length : Int) 1 ++ catL brS xs
def ptE (xs : List BrD) : Int := if xs.length < 1 ∨ 3 < xs.length then 6 else if xs.any highB = true then 3 else 0
def ptS (xs : List BrD) : ByteArray := if ptE xs = 0 then scr xs else ⟨#[]⟩
theorem put_sz (n : Int) {k : Nat} (h : Oc.szB k = true) : (Oc.putS n k).size = k := by
  rw [Oc.putS_yes h]
  rw [strOfNums_size, Oc.digs_length]
theorem put_sz1 (n : Int) : (Oc.putS n 1).size = 1 := put_sz n (k := 1) (by decide)
theorem put_sz2 (n : Int) : (Oc.putS n 2).size = 2 := put_sz n (k := 2) (by decide)
theorem put_sz4 (n : Int) : (Oc.putS n 4).size = 4 := put_sz n (k := 4) (by decide)
theorem brS_size (x : BrD) : (brS x).size = 8 := by
  unfold brS
  rw [ByteArray.size_append, ByteArray.size_append, put_sz2, put_sz2, put_sz4]
theorem cat_size (xs : List BrD) : (catL brS xs).size = 8 * xs.length := by
  induction xs with
  | nil => rfl
  | cons x r ih => simp only [catL, ByteArray.size_append, brS_size, ih, List.length_cons]; omega
theorem ret_se {a b : ByteArray} {c d : Int} (h : a = b) (h2 : c = d) : Ending.returned (.tuple #[.string a, .int .i64 c]) = .returned (.tuple #[.string b, .int .i64 d]) := by rw [h, h2]

end Go.Proofs.YtjclklppnkoehaaGreatDoor
