/-
  Branches as plain data, and how they lie in memory; a lock's script as a function; what looks at one branch.
  The program's Put of a lock, and the document's.
  The program's Get of a lock: the branches of a script.
  The document's Put of a lock.
  The document's Get of a lock.
  Witnesses of a lock, and Sequences: the program's calls and the document's.
-/
import Derived.Test.YtnmfjnfdnjjngaaGreatDoorMOmath
import Derived.Test.YtnmfjnfdnjjngaaGreatDoorMFind
import Derived.Laws.Concat
import Derived.Deep.RegionHeld3
import Derived.Deep.DeepCutAuto
import Derived.Deep.CutBlock
import Derived.Laws.MakeOwn
import Derived.OwnWalk
import Derived.Test.YtnmfjnfdnjjngaaGreatDoorMPure

namespace Go.Proofs.YtnmfjnfdnjjngaaGreatDoor
open Go.RowKit
set_option maxRecDepth 100000

/-- A world in which all that lay in w lies as it did. -/
structure After (w : World) where
  val : World
  ok : Below w.heap.size w val
/-- A region that draws its order, reads what lay there, and whose callees leave that as it was: one walk of the text's order serves every order. -/
theorem wp_region_after {P : Program} {id : Nat} {Q : Exit → Act → World → Prop} {a : Act} {w : World} {l : List Oper} (hm : P.follows .mixedOrders = true) (hB : Region.lexB .any l.toArray = true)
    (h : wpQuiet P l.toArray (fun w' => ∃ x : After w, w' = x.val) (fun a' => ∀ w', (∃ x : After w, w' = x.val) → Q .normal a' w') l a) : (Code.region id l.toArray true).wp P Q a w :=
  wp_region_quiet (C := fun w' => ∃ x : After w, w' = x.val) hm hB ⟨⟨w.drew, (Below.refl _ w).drew⟩, rfl⟩ (by simpa using h)
theorem After.call {P : Program} {f : FuncId} {args : Array Value} {w : World} {v : Value} (x : After w) (h : Calls P f args x.val fun e w' => e = .returned v ∧ Below x.val.heap.size x.val w') : Calls P f args x.val fun e w'' => e = .returned v ∧ ∃ y : After w, w'' = y.val :=
  h.mono fun _ w' ⟨he, hb⟩ => ⟨he, ⟨w', below_next x.ok x.ok.size hb⟩, rfl⟩

/-- A branch. -/
structure BrD where
  tag : Int
  del : Int
  hgt : Int
def BrD.Ok (x : BrD) : Prop := 0 ≤ x.tag ∧ x.tag ≤ 65535 ∧ 0 ≤ x.del ∧ x.del ≤ 65535 ∧ 0 ≤ x.hgt ∧ x.hgt ≤ 4294967295
/-- Its three cells. -/
def BrAt (w : World) (b o : Nat) (x : BrD) : Prop := w.cell? ⟨b, o, none⟩ = some (.int .u16 x.tag) ∧ w.cell? ⟨b, o + 1, none⟩ = some (.int .u16 x.del) ∧ w.cell? ⟨b, o + 2, none⟩ = some (.int .u32 x.hgt)
theorem BrAt.keep {w w' : World} {lo hi b o : Nat} {x : BrD} (h : BrAt w b o x) (h1 : lo ≤ b) (h2 : b < hi) (hk : Kept lo hi w w') : BrAt w' b o x := ⟨(hk.cell h1 h2).trans h.1, (hk.cell h1 h2).trans h.2.1, (hk.cell h1 h2).trans h.2.2⟩
/-- The branches xs lie in the slice v. -/
def Brs (w : World) (lo hi : Nat) (v : Value) (xs : List BrD) : Prop :=
  ∃ (A : Option Addr) (c : Nat), v = .slice A xs.length c ∧ xs.length ≤ c ∧ (xs = [] ∨ ∃ b off, A = some ⟨b, off, none⟩ ∧ lo ≤ b ∧ b < hi ∧ ∀ k x, xs[k]? = some x → BrAt w b (off + k * 3) x)
theorem Brs.keep {w w' : World} {lo hi : Nat} {v : Value} {xs : List BrD} (h : Brs w lo hi v xs) (hk : Kept lo hi w w') : Brs w' lo hi v xs := by
  obtain ⟨A, c, rfl, hc, h⟩ := h
  refine ⟨A, c, rfl, hc, ?_⟩
  rcases h with h | ⟨b, off, rfl, h1, h2, h⟩
  · exact .inl h
  · exact .inr ⟨b, off, rfl, h1, h2, fun k s hs => (h k s hs).keep h1 h2 hk⟩
theorem Brs.wide {w : World} {lo hi lo' hi' : Nat} {v : Value} {xs : List BrD} (h : Brs w lo hi v xs) (h1 : lo' ≤ lo) (h2 : hi ≤ hi') : Brs w lo' hi' v xs := by
  obtain ⟨A, c, rfl, hc, h⟩ := h
  refine ⟨A, c, rfl, hc, ?_⟩
  rcases h with h | ⟨b, off, rfl, h3, h4, h⟩
  · exact .inl h
  · exact .inr ⟨b, off, rfl, by omega, by omega, h⟩
theorem Brs.nil (w : World) (lo hi : Nat) : Brs w lo hi (.slice none 0 0) [] := ⟨none, 0, rfl, Nat.le_refl _, .inl rfl⟩
theorem Brs.form {w : World} {lo hi : Nat} {v : Value} {xs : List BrD} (h : Brs w lo hi v xs) : ∃ A c, v = .slice A xs.length c := by
  obtain ⟨A, c, rfl, _⟩ := h
  exact ⟨A, c, rfl⟩
theorem Brs.at {w : World} {lo hi : Nat} {A : Option Addr} {n c : Nat} {xs : List BrD} (h : Brs w lo hi (.slice A n c) xs) {k : Nat} {x : BrD} (hx : xs[k]? = some x) :
    ∃ b off, A = some ⟨b, off, none⟩ ∧ lo ≤ b ∧ b < hi ∧ BrAt w b (off + k * 3) x := by
  obtain ⟨A', c', hv, hc, h⟩ := h
  injection hv with hA
  subst hA
  rcases h with rfl | ⟨b, off, rfl, h1, h2, h⟩
  · simp at hx
  · exact ⟨b, off, rfl, h1, h2, h k x hx⟩
theorem Brs.take {w : World} {lo hi : Nat} {A : Option Addr} {n c : Nat} {xs : List BrD} (h : Brs w lo hi (.slice A n c) xs) {p : Nat} (hp : p ≤ xs.length) : Brs w lo hi (.slice A p c) (xs.take p) := by
  obtain ⟨A', c', hv, hc, h⟩ := h
  injection hv with e1 _ e3
  subst e1 e3
  refine ⟨A, c, by rw [List.length_take, Nat.min_eq_left hp], by rw [List.length_take]; omega, ?_⟩
  rcases h with rfl | ⟨b, off, rfl, h1, h2, h⟩
  · exact .inl (by simp)
  · refine .inr ⟨b, off, rfl, h1, h2, fun k x hx => h k x ?_⟩
    rw [List.getElem?_take] at hx
    split at hx
    · exact hx
    · cases hx

/-- Is its Height above the greatest? -/
def highB (x : BrD) : Bool := decide (1000000 < x.hgt)
set_option maxHeartbeats 400000 in
theorem high_any (x : BrD) (w : World) :
    Calls Tryz.prog 169 #[.agg #[.int .u16 x.tag, .int .u16 x.del, .int .u32 x.hgt]] w fun e w' => e = .returned (.bool (highB x)) ∧ Below w.heap.size w w' := by
  obtain ⟨t, d, h⟩ := x
  unfold highB
  go_enter Tryz.func169, Tryz.ntmps169
  go_wp2
  go_ret
  exact ⟨rfl, (Below.refl _ _).alloc (Nat.le_refl _) _⟩
theorem eg28 : ∀ args w, (callFunc 169 args).run Tryz.prog w = .ok (.enter 169 args) w := enters_of Tryz.func169 (by kernel_rfl) rfl

set_option maxHeartbeats 1000000 in
theorem find_br (A : Option Addr) (n c : Nat) (xs : List BrD) (w : World) (lo hi : Nat) (hx : Brs w lo hi (.slice A n c) xs) (hhi : hi ≤ w.heap.size) (hl : xs.length ≤ 512) :
    Calls Tryz.prog 173 #[.slice A n c, .func (.func 169) #[] #[]] w fun e w' => e = .returned (.int .i64 (idxOf highB xs)) ∧ Below w.heap.size w w' := by
  obtain rfl : n = xs.length := by obtain ⟨_, _, hv, _⟩ := hx; injection hv
  have eg := eg28
  have HX := Lib.hid hx
  clear hx
  go_enter Tryz.func173, Tryz.ntmps173
  go_wp2
  go_loopg [5, 8] xs.length (fun gg _ s8 wr => ∃ kk : Nat, kk ≤ xs.length ∧ xs.length - kk ≤ gg ∧ s8 = .int .i64 kk ∧ Hid (Below w.heap.size w wr) ∧ Hid (∀ (j : Nat) (y : BrD), j < kk → xs[j]? = some y → highB y = false))
  case atStart => exact ⟨0, Nat.zero_le _, by omega, rfl, Below.refl _ w, fun j _ hj => absurd hj (Nat.not_lt_zero _)⟩
  case round =>
    obtain ⟨kk, hkk, hg, rfl, BW, A0⟩ := hrel
    by_cases hlt : kk < xs.length
    · have hltz : (kk : Int) < (xs.length : Int) := by omega
      obtain ⟨x, hxk⟩ : ∃ x, xs[kk]? = some x := ⟨_, List.getElem?_eq_getElem hlt⟩
      obtain ⟨b, off, rfl, h1, h2, c0, c1, c2⟩ := (HX.out.keep (Kept.of_below BW.out hhi)).at hxk
      have hcall := high_any x wr
      have HXK := Lib.hid hxk
      clear hxk
      cases hq : highB x with
      | true =>
        rw [hq] at hcall
        go_wp2_with (go_at_fn 169; refine hcall.mono ?_; rintro e w' ⟨rfl, hb'⟩)
        go_ret
        exact ⟨ret_int (by rw [idxOf_hit HXK.out hq A0.out]), below_next BW.out BW.out.size hb'⟩
      | false =>
        rw [hq] at hcall
        go_wp2_with (go_at_fn 169; refine hcall.mono ?_; rintro e w' ⟨rfl, hb'⟩)
        go_roundg (xs.length - (kk + 1))
        case measure => omega
        case rel =>
          refine ⟨kk + 1, by omega, by omega, by go_num, below_next BW.out BW.out.size hb', (show Hid _ from fun j y hj hy => ?_)⟩
          by_cases e : j = kk
          · subst e
            rw [HXK.out] at hy
            injection hy with hy
            subst hy
            exact hq
          · exact A0.out j y (by omega) hy
    · have hltz : ¬ (kk : Int) < (xs.length : Int) := by omega
      have : kk = xs.length := by omega
      subst this
      go_wp2
      go_ret
      refine ⟨ret_int ?_, BW.out⟩
      rw [idxOf_miss (fun j y hy => A0.out j y (List.getElem?_eq_some_iff.1 hy).1 hy)]

set_option maxHeartbeats 400000 in
theorem has_br (A : Option Addr) (n c : Nat) (xs : List BrD) (w : World) (lo hi : Nat) (hx : Brs w lo hi (.slice A n c) xs) (hhi : hi ≤ w.heap.size) (hl : xs.length ≤ 512) :
    Calls Tryz.prog 168 #[.slice A n c, .func (.func 169) #[] #[]] w fun e w' => e = .returned (.bool (xs.any highB)) ∧ Below w.heap.size w w' := by
  rw [← idxOf_any]
  have HF := Lib.hid (find_br A n c xs w lo hi hx hhi hl)
  generalize idxOf highB xs = r at HF
  clear hx
  go_enter Tryz.func168, Tryz.ntmps168
  go_wp2_with fail
  refine HF.out.mono ?_
  rintro e w' ⟨rfl, hb'⟩
  go_wp2
  go_ret
  exact ⟨rfl, hb'⟩

/-- Texts one behind the other. -/
def catL {α : Type} (f : α → ByteArray) : List α → ByteArray
  | [] => ByteArray.empty
  | x :: r => f x ++ catL f r
theorem catL_append {α : Type} (f : α → ByteArray) (xs ys : List α) : catL f (xs ++ ys) = catL f xs ++ catL f ys := by
  induction xs with
  | nil => simp [catL]
  | cons x r ih => simp only [List.cons_append, catL, ih, ByteArray.append_assoc]
theorem catL_step {α : Type} (f : α → ByteArray) {xs : List α} {k : Nat} {x : α} (h : xs[k]? = some x) : catL f (xs.take (k + 1)) = catL f (xs.take k) ++ f x := by
  have e : xs.take (k + 1) = xs.take k ++ [x] := by
    rw [List.take_add_one, h]
    rfl
  rw [e, catL_append]
  simp [catL]
/-- A branch's bytes; a lock's script, and its error. -/
def brS (x : BrD) : ByteArray := Oc.putS x.tag 2 ++ Oc.putS x.del 2 ++ Oc.putS x.hgt 4
def scr (xs : List BrD) : ByteArray := Oc.putS (xs.length : Int) 1 ++ catL brS xs
def ptE (xs : List BrD) : Int := if xs.length < 1 ∨ 3 < xs.length then 6 else if xs.any highB = true then 3 else 0
def ptS (xs : List BrD) : ByteArray := if ptE xs = 0 then scr xs else ⟨#[]⟩
theorem put_sz (n : Int) {k : Nat} (h : Oc.szB k = true) : (Oc.putS n k).size = k := by
  rw [Oc.putS_yes h]
  rw [strOfNums_size, Oc.digs_length]
theorem put_sz1 (n : Int) : (Oc.putS n 1).size = 1 := put_sz n (k := 1) (by decide)
theorem put_sz2 (n : Int) : (Oc.putS n 2).size = 2 := put_sz n (k := 2) (by decide)
theorem put_sz4 (n : Int) : (Oc.putS n 4).size = 4 := put_sz n (k := 4) (by decide)
theorem brS_size (x : BrD) : (brS x).size = 8 := by
  unfold brS
  rw [ByteArray.size_append, ByteArray.size_append, put_sz2, put_sz2, put_sz4]
theorem cat_size (xs : List BrD) : (catL brS xs).size = 8 * xs.length := by
  induction xs with
  | nil => rfl
  | cons x r ih => simp only [catL, ByteArray.size_append, brS_size, ih, List.length_cons]; omega
theorem ret_se {a b : ByteArray} {c d : Int} (h : a = b) (h2 : c = d) : Ending.returned (.tuple #[.string a, .int .i64 c]) = .returned (.tuple #[.string b, .int .i64 d]) := by rw [h, h2]

end Go.Proofs.YtnmfjnfdnjjngaaGreatDoor

namespace Go.Proofs.YtnmfjnfdnjjngaaGreatDoor
open Go.RowKit
set_option maxRecDepth 100000

theorem ptE_count {xs : List BrD} (h : xs.length < 1 ∨ 3 < xs.length) : ptE xs = 6 ∧ ptS xs = ⟨#[]⟩ := by
  have e : ptE xs = 6 := by unfold ptE; rw [if_pos h]
  exact ⟨e, by unfold ptS; rw [e, if_neg (by decide)]⟩
theorem ptE_high {xs : List BrD} (h : ¬ (xs.length < 1 ∨ 3 < xs.length)) (hh : xs.any highB = true) : ptE xs = 3 ∧ ptS xs = ⟨#[]⟩ := by
  have e : ptE xs = 3 := by unfold ptE; rw [if_neg h, if_pos hh]
  exact ⟨e, by unfold ptS; rw [e, if_neg (by decide)]⟩
theorem ptE_ok {xs : List BrD} (h : ¬ (xs.length < 1 ∨ 3 < xs.length)) (hh : xs.any highB = false) : ptE xs = 0 ∧ ptS xs = scr xs := by
  have e : ptE xs = 0 := by unfold ptE; rw [if_neg h, if_neg (by rw [hh]; decide)]
  exact ⟨e, by unfold ptS; rw [if_pos e]⟩

/-- Three texts of a branch, added behind s. -/
theorem adds (s a b c : ByteArray) (hs : s.size ≤ 100) (ha : a.size = 2) (hb : b.size = 2) (hc : c.size = 4) :
    (∀ W : World, (Op.stringOp .add a b).run Tryz.prog W = .ok (.string (a ++ b)) W) ∧ (∀ W : World, (Op.stringOp .add (a ++ b) c).run Tryz.prog W = .ok (.string (a ++ b ++ c)) W) ∧ (∀ W : World, (Op.stringOp .add s (a ++ b ++ c)).run Tryz.prog W = .ok (.string (s ++ (a ++ b ++ c))) W) :=
  ⟨fun W => run_string_add_sum (w := W) a b (by omega), fun W => run_string_add_sum (w := W) _ c (by rw [ByteArray.size_append]; omega), fun W => run_string_add_sum (w := W) s _ (by rw [ByteArray.size_append, ByteArray.size_append]; omega)⟩

end Go.Proofs.YtnmfjnfdnjjngaaGreatDoor

namespace Go.Proofs.YtnmfjnfdnjjngaaGreatDoor
open Go.RowKit
set_option maxRecDepth 100000

theorem getN_bd (s : ByteArray) (a : Int) {k : Nat} (_hk : k ≤ 8) : 0 ≤ Oc.getN s a k ∧ Oc.getN s a k < 256 ^ k := by
  unfold Oc.getN
  split
  · rename_i h
    unfold Oc.okB at h
    simp only [Bool.and_eq_true, decide_eq_true_eq] at h
    have := Oc.part_num_bd s a.toNat k (by omega)
    simpa using this
  · exact ⟨Int.le_refl _, Int.pow_pos (by decide)⟩
theorem getN_bd1 (s : ByteArray) (a : Int) : 0 ≤ Oc.getN s a 1 ∧ Oc.getN s a 1 < 256 := getN_bd s a (k := 1) (by decide)
theorem getN_bd2 (s : ByteArray) (a : Int) : 0 ≤ Oc.getN s a 2 ∧ Oc.getN s a 2 < 65536 := getN_bd s a (k := 2) (by decide)
theorem getN_bd4 (s : ByteArray) (a : Int) : 0 ≤ Oc.getN s a 4 ∧ Oc.getN s a 4 < 4294967296 := getN_bd s a (k := 4) (by decide)

/-- The branch at a place of a script. -/
def brG (s : ByteArray) (a : Nat) : BrD := ⟨Oc.getN s (a : Int) 2, Oc.getN s ((a + 2 : Nat) : Int) 2, Oc.getN s ((a + 4 : Nat) : Int) 4⟩
theorem brG_ok (s : ByteArray) (a : Nat) : (brG s a).Ok := by
  have h1 := getN_bd2 s (a : Int)
  have h2 := getN_bd2 s ((a + 2 : Nat) : Int)
  have h3 := getN_bd4 s ((a + 4 : Nat) : Int)
  unfold brG BrD.Ok
  simp only
  omega
def brV (x : BrD) : Value := .agg #[.int .u16 x.tag, .int .u16 x.del, .int .u32 x.hgt]

set_option maxHeartbeats 1000000 in
theorem brat_any (s : ByteArray) (a : Nat) (w : World) (hs : s.size ≤ maxLen) (ha : a ≤ 1000) :
    Calls Tryz.prog 167 #[.string s, .int .i64 (a : Int)] w fun e w' => e = .returned (.agg #[.int .u16 (brG s a).tag, .int .u16 (brG s a).del, .int .u32 (brG s a).hgt]) ∧ Below w.heap.size w w' := by
  have h1 := getN_bd2 s (a : Int)
  have h2 := getN_bd2 s ((a + 2 : Nat) : Int)
  have h3 := getN_bd4 s ((a + 4 : Nat) : Int)
  have C1 := Lib.hid (fun W => Oc.get_any s (a : Int) 2 W hs)
  have C2 := Lib.hid (fun W => Oc.get_any s ((a + 2 : Nat) : Int) 2 W hs)
  have C4 := Lib.hid (fun W => Oc.get_any s ((a + 4 : Nat) : Int) 4 W hs)
  unfold Oc.GetEnd at C1 C2 C4
  unfold brG
  simp only
  generalize Oc.getN s (a : Int) 2 = x1 at C1 h1 ⊢
  generalize Oc.getN s ((a + 2 : Nat) : Int) 2 = x2 at C2 h2 ⊢
  generalize Oc.getN s ((a + 4 : Nat) : Int) 4 = x3 at C4 h3 ⊢
  generalize Oc.okB s (a : Int) 2 = y1 at C1
  generalize Oc.okB s ((a + 2 : Nat) : Int) 2 = y2 at C2
  generalize Oc.okB s ((a + 4 : Nat) : Int) 4 = y3 at C4
  have u1 : IntKind.u16.wrap x1 = x1 := by rw [IntWalk.u16_in _ (by omega)]
  have u2 : IntKind.u16.wrap x2 = x2 := by rw [IntWalk.u16_in _ (by omega)]
  have u3 : IntKind.u32.wrap x3 = x3 := by rw [IntWalk.u32_in _ (by omega)]
  obtain ⟨a2, ha2⟩ : ∃ a2 : Nat, a2 = a + 2 := ⟨_, rfl⟩
  obtain ⟨a4, ha4⟩ : ∃ a4 : Nat, a4 = a + 4 := ⟨_, rfl⟩
  have w2 : IntKind.i64.wrap ((a : Int) + 2) = (a2 : Int) := by rw [IntWalk.i64_in _ (by omega)]; omega
  have w4 : IntKind.i64.wrap ((a : Int) + 4) = (a4 : Int) := by rw [IntWalk.i64_in _ (by omega)]; omega
  rw [← ha2] at C2
  rw [← ha4] at C4
  have B0 := Lib.hid (fun o => (Below.refl w.heap.size w).alloc (Nat.le_refl _) o)
  clear hs ha h1 h2 h3 ha2 ha4
  go_enter Tryz.func167, Tryz.ntmps167
  go_wp2_with fail
  refine (C1.out _).mono ?_
  rintro e w1 ⟨rfl, rfl⟩
  go_wp2_with fail
  refine (C2.out _).mono ?_
  rintro e w1 ⟨rfl, rfl⟩
  go_wp2_with fail
  refine (C4.out _).mono ?_
  rintro e w1 ⟨rfl, rfl⟩
  go_wp2_with fail
  refine bodyPost_ret (v := .agg #[.int .u16 x1, .int .u16 x2, .int .u32 x3]) (by simp [results, Tryz.results167, go_sem]) rfl ?_
  exact ⟨rfl, B0.out _⟩

/-- How many branches a script tells of; these; the error; what is got. -/
def gtN (s : ByteArray) : Nat := (Oc.getN s 0 1).toNat
def gtL (s : ByteArray) : List BrD := (List.range (gtN s)).map fun i => brG s (1 + i * 8)
def shB (s : ByteArray) : Bool := decide (1 ≤ gtN s ∧ gtN s ≤ 3 ∧ s.size = 1 + gtN s * 8)
def gtE (s : ByteArray) : Int := if shB s = true then (if (gtL s).any highB = true then 4 else 0) else 4
def gtR (s : ByteArray) : List BrD := if gtE s = 0 then gtL s else []
theorem gt_no {s : ByteArray} (h : shB s = false) : gtE s = 4 ∧ gtR s = [] := by
  have e : gtE s = 4 := by unfold gtE; rw [if_neg (by rw [h]; decide)]
  exact ⟨e, by unfold gtR; rw [e, if_neg (by decide)]⟩
theorem gt_high {s : ByteArray} (h : shB s = true) (hh : (gtL s).any highB = true) : gtE s = 4 ∧ gtR s = [] := by
  have e : gtE s = 4 := by unfold gtE; rw [if_pos h, if_pos hh]
  exact ⟨e, by unfold gtR; rw [e, if_neg (by decide)]⟩
theorem gt_yes {s : ByteArray} (h : shB s = true) (hh : (gtL s).any highB = false) : gtE s = 0 ∧ gtR s = gtL s := by
  have e : gtE s = 0 := by unfold gtE; rw [if_pos h, if_neg (by rw [hh]; decide)]
  exact ⟨e, by unfold gtR; rw [if_pos e]⟩
theorem gtL_length (s : ByteArray) : (gtL s).length = gtN s := by simp [gtL]
theorem gtL_get {s : ByteArray} {k : Nat} {x : BrD} (h : (gtL s)[k]? = some x) : x = brG s (1 + k * 8) ∧ k < gtN s := by
  have hk := (List.getElem?_eq_some_iff.1 h).1
  rw [gtL_length] at hk
  unfold gtL at h
  rw [List.getElem?_map, List.getElem?_range hk] at h
  simp at h
  exact ⟨h.symm, hk⟩
theorem gtL_ok (s : ByteArray) : ∀ x ∈ gtL s, x.Ok := by
  intro x hx
  obtain ⟨y, _, rfl⟩ := List.mem_map.1 hx
  exact brG_ok s _
theorem gtR_ok (s : ByteArray) : ∀ x ∈ gtR s, x.Ok := by
  unfold gtR
  split
  · exact gtL_ok s
  · intro x hx; cases hx
theorem gtR_len (s : ByteArray) : (gtR s).length ≤ 3 := by
  unfold gtR
  split
  · rename_i h
    rw [gtL_length]
    unfold gtE at h
    split at h
    · rename_i h2
      unfold shB at h2
      simp only [decide_eq_true_eq] at h2
      omega
    · omega
  · exact Nat.zero_le _

theorem info34 : (Tryz.prog.info? 200).map (fun i => (i.zero, i.size, i.bytes)) = some (some (.agg #[.int .u16 0, .int .u16 0, .int .u32 0]), 3, 8) := by kernel_rfl
theorem info_parts' {t : TypeId} {z : Value} {size bytes : Nat} (h : (Tryz.prog.info? t).map (fun i => (i.zero, i.size, i.bytes)) = some (some z, size, bytes)) : ∃ i, Tryz.prog.info? t = some i ∧ i.zero = some z ∧ i.size = size ∧ i.bytes = bytes := by
  obtain ⟨i, hi, h⟩ := Option.map_eq_some_iff.1 h
  injection h with h1 h2
  injection h2 with h2 h3
  exact ⟨i, hi, h1, h2, h3⟩
/-- n empty branches, made. -/
def mkB (n : Nat) : Array Value := madeCells (Value.agg #[.int .u16 0, .int .u16 0, .int .u32 0]).cells (n * 3)
theorem make_brs (n : Nat) (hn : n ≤ 3) (W : World) : (Instr.makeSlice 196 (.int .i64 (n : Int)) (.int .i64 (n : Int))).run Tryz.prog W = .ok (.slice (some ⟨W.heap.size, 0, none⟩) n n) (W.alloc (.cells (mkB n) 200)) := by
  obtain ⟨i0, hi, hz0, hz1, hz2⟩ := info_parts' info34
  have hr := run_make (P := Tryz.prog) W 196 200 i0 _ Tryz.underlying196 hi hz0 .i64 .i64 (n : Int) (n : Int) (by omega) (Int.le_refl _) (by rw [hz2]; omega) (by omega)
  rw [hz1] at hr
  simpa [mkB] using hr

/-- A row of n branches, k of which are the script's. -/
structure BrRow (w : World) (s : ByteArray) (g n k : Nat) (wr : World) : Prop where
  blk : ∃ cur, wr.heap[g]? = some (.cells cur 200 (0, 0)) ∧ cur.size = n * 3
  at' : ∀ j, j < k → BrAt wr g (j * 3) (brG s (1 + j * 8))
  lo : w.heap.size ≤ g
  bel : Below w.heap.size w wr
theorem BrRow.lt {w : World} {s : ByteArray} {g n k : Nat} {wr : World} (h : BrRow w s g n k wr) : g < wr.heap.size := by
  obtain ⟨cur, hc, _⟩ := h.blk
  rcases Nat.lt_or_ge g wr.heap.size with h' | h'
  · exact h'
  · rw [Array.getElem?_eq_none h'] at hc; cases hc
theorem BrRow.free {w : World} {s : ByteArray} {g n k : Nat} {wr : World} (h : BrRow w s g n k wr) (o : Nat) : wr.frozen? ⟨g, o, none⟩ = false := by
  obtain ⟨cur, hc, _⟩ := h.blk
  exact Lib.frozen_of_heap hc o
theorem BrRow.cell {w : World} {s : ByteArray} {g n k : Nat} {wr : World} (h : BrRow w s g n k wr) {o : Nat} (ho : o < n * 3) : ∃ v, wr.cell? ⟨g, o, none⟩ = some v := by
  obtain ⟨cur, hc, hz⟩ := h.blk
  have e : wr.cell? ⟨g, o, none⟩ = cur[o]? := by simp [World.cell?, hc]
  exact ⟨cur[o]'(by omega), by rw [e]; exact Array.getElem?_eq_getElem (by omega)⟩
theorem BrRow.below {w : World} {s : ByteArray} {g n k : Nat} {wr wx : World} (h : BrRow w s g n k wr) (hb : Below wr.heap.size wr wx) : BrRow w s g n k wx := by
  obtain ⟨cur, hc, hz⟩ := h.blk
  have f : ∀ o, wx.cell? ⟨g, o, none⟩ = wr.cell? ⟨g, o, none⟩ := fun o => hb.cell (p := ⟨g, o, none⟩) h.lt
  exact ⟨⟨cur, (hb.block g h.lt).trans hc, hz⟩, fun j hj => ⟨(f _).trans (h.at' j hj).1, (f _).trans (h.at' j hj).2.1, (f _).trans (h.at' j hj).2.2⟩, h.lo, below_next h.bel h.bel.size hb⟩
theorem set_blk {wr : World} {g o n : Nat} {v : Value} (h : ∃ cur, wr.heap[g]? = some (.cells cur 200 (0, 0)) ∧ cur.size = n) : ∃ cur, (wr.setCell ⟨g, o, none⟩ v).heap[g]? = some (.cells cur 200 (0, 0)) ∧ cur.size = n := by
  obtain ⟨cur, hc, hz⟩ := h
  exact ⟨cur.setIfInBounds o v, by simp [World.setCell, Array.getElem?_modify, hc], by simpa using hz⟩
theorem BrRow.step {w : World} {s : ByteArray} {g n k : Nat} {wr : World} (h : BrRow w s g n k wr) (hk : k < n) :
    BrRow w s g n (k + 1) (((wr.setCell ⟨g, k * 3, none⟩ (.int .u16 (brG s (1 + k * 8)).tag)).setCell ⟨g, k * 3 + 1, none⟩ (.int .u16 (brG s (1 + k * 8)).del)).setCell ⟨g, k * 3 + 2, none⟩ (.int .u32 (brG s (1 + k * 8)).hgt)) := by
  obtain ⟨v0, e0⟩ := h.cell (o := k * 3) (by omega)
  obtain ⟨v1, e1⟩ := h.cell (o := k * 3 + 1) (by omega)
  obtain ⟨v2, e2⟩ := h.cell (o := k * 3 + 2) (by omega)
  generalize hx : brG s (1 + k * 8) = x
  have ne : ∀ {W : World} {o p : Nat} {v : Value}, o ≠ p → (W.setCell ⟨g, p, none⟩ v).cell? ⟨g, o, none⟩ = W.cell? ⟨g, o, none⟩ := fun ho => World.cell?_setCell_other _ _ _ _ (by intro e; injection e with _ e; exact ho e.symm)
  refine ⟨set_blk (set_blk (set_blk h.blk)), fun j hj => ?_, h.lo, ((h.bel.setCell (p := ⟨g, k * 3, none⟩) h.lo _).setCell (p := ⟨g, k * 3 + 1, none⟩) h.lo _).setCell (p := ⟨g, k * 3 + 2, none⟩) h.lo _⟩
  by_cases e : j = k
  · subst e
    rw [hx]
    refine ⟨?_, ?_, ?_⟩
    · rw [ne (by omega), ne (by omega)]; exact World.cell?_setCell_same _ _ _ e0
    · rw [ne (by omega)]; exact World.cell?_setCell_same _ _ _ ((ne (by omega)).trans e1)
    · exact World.cell?_setCell_same _ _ _ ((ne (by omega)).trans ((ne (by omega)).trans e2))
  · obtain ⟨a0, a1, a2⟩ := h.at' j (by omega)
    exact ⟨(ne (by omega)).trans ((ne (by omega)).trans ((ne (by omega)).trans a0)), (ne (by omega)).trans ((ne (by omega)).trans ((ne (by omega)).trans a1)), (ne (by omega)).trans ((ne (by omega)).trans ((ne (by omega)).trans a2))⟩
theorem BrRow.brs {w : World} {s : ByteArray} {g n : Nat} {wr : World} (h : BrRow w s g n n wr) (hn : gtN s = n) : Brs wr w.heap.size wr.heap.size (.slice (some ⟨g, 0, none⟩) n n) (gtL s) := by
  refine ⟨_, n, by rw [gtL_length, hn], by rw [gtL_length, hn]; exact Nat.le_refl _, .inr ⟨g, 0, rfl, h.lo, h.lt, fun k x hx => ?_⟩⟩
  obtain ⟨rfl, hk⟩ := gtL_get hx
  rw [Nat.zero_add]
  exact h.at' k (by omega)
theorem ret_sl {a b : Value} {c d : Int} (h : a = b) (h2 : c = d) : Ending.returned (.tuple #[a, .int .i64 c]) = .returned (.tuple #[b, .int .i64 d]) := by rw [h, h2]

set_option maxHeartbeats 2000000 in
set_option maxRecDepth 100000 in
theorem lget_any (s : ByteArray) (w : World) (hs : s.size ≤ maxLen) :
    Calls Tryz.prog 160 #[.string s] w fun e w' => ∃ v, e = .returned (.tuple #[v, .int .i64 (gtE s)]) ∧ Brs w' w.heap.size w'.heap.size v (gtR s) ∧ Below w.heap.size w w' := by
  have hb := getN_bd1 s 0
  obtain ⟨n, hn⟩ : ∃ n, gtN s = n := ⟨_, rfl⟩
  have hgn : Oc.getN s 0 1 = (n : Int) := by rw [← hn]; unfold gtN; omega
  have C0 := Lib.hid (fun W => Oc.get_any s 0 1 W hs)
  unfold Oc.GetEnd at C0
  rw [hgn] at C0
  generalize Oc.okB s 0 1 = y at C0
  have hs' : s.size ≤ 9223372036854775807 := by unfold maxLen at hs; omega
  have vn : IntKind.i64.wrap (n : Int) = (n : Int) := by rw [IntWalk.i64_in _ (by omega)]
  have v8 : IntKind.i64.wrap ((n : Int) * 8) = (n : Int) * 8 := by rw [IntWalk.i64_in _ (by omega)]
  have v9 : IntKind.i64.wrap (1 + (n : Int) * 8) = 1 + (n : Int) * 8 := by rw [IntWalk.i64_in _ (by omega)]
  have HSZ := Lib.hid hs
  have HN := Lib.hid hn
  rw [hgn] at hb
  by_cases hc : 1 ≤ n ∧ n ≤ 3 ∧ s.size = 1 + n * 8
  · obtain ⟨h1, h3, h8⟩ := hc
    have hsh : shB s = true := by unfold shB; rw [hn]; simpa using ⟨h1, h3, h8⟩
    have HSH := Lib.hid hsh
    have hmk := make_brs n h3
    have c1 : ¬ (n : Int) < 1 := by omega
    have c2 : ¬ (3 : Int) < (n : Int) := by omega
    have c3 : ((s.size : Int) != 1 + (n : Int) * 8) = false := by rw [h8]; simp
    clear hn hgn hs hsh hb
    obtain ⟨w1, hw1⟩ : ∃ w1, w1 = w.alloc (.cells (mkB n) 200) := ⟨_, rfl⟩
    have R1 := Lib.hid (show BrRow w s w.heap.size n 0 w1 from by
      rw [hw1]
      exact ⟨⟨mkB n, heap_alloc_new w _, size_madeCells _ _⟩, fun j hj => absurd hj (Nat.not_lt_zero _), Nat.le_refl _, (Below.refl _ _).alloc (Nat.le_refl _) _⟩)
    go_enter Tryz.func160, Tryz.ntmps160
    go_wp2_with fail
    refine (C0.out _).mono ?_
    rintro e wz ⟨rfl, rfl⟩
    go_upto_region 5 with (fail)
    rw [← hw1]
    clear hw1 hmk C0
    go_wp2_with fail
    go_loopg [7, 33] n (fun gg _ s33 wr => ∃ k : Nat, k ≤ n ∧ n - k ≤ gg ∧ s33 = .int .i64 k ∧ Hid (BrRow w s w.heap.size n k wr))
    case atStart => exact ⟨0, Nat.zero_le _, by omega, rfl, R1⟩
    case round =>
      clear R1
      obtain ⟨k, hk, hg, rfl, R⟩ := hrel
      by_cases hlt : k < n
      · have k1 : (k : Int) < (n : Int) := by omega
        have k2 : decide (k < n) = true := decide_eq_true hlt
        obtain ⟨a, ha⟩ : ∃ a : Nat, a = 1 + k * 8 := ⟨_, rfl⟩
        have q1 : IntKind.i64.wrap ((k : Int) * 8) = (k : Int) * 8 := by rw [IntWalk.i64_in _ (by omega)]
        have q2 : IntKind.i64.wrap (a : Int) = (a : Int) := by rw [IntWalk.i64_in _ (by omega)]
        have q3 : 1 + (k : Int) * 8 = (a : Int) := by omega
        have CB := Lib.hid (fun W => brat_any s a W HSZ.out (by omega))
        have ST := Lib.hid (fun wx (h : BrRow w s w.heap.size n k wx) => h.step hlt)
        rw [← ha] at ST
        generalize brG s a = x at CB ST
        clear ha
        go_wp2_with fail
        refine (CB.out _).mono ?_
        rintro e w2 ⟨rfl, hb2⟩
        have R2 := Lib.hid (R.out.below hb2)
        clear hb2
        obtain ⟨v0, e0⟩ := R2.out.cell (o := k * 3) (by omega)
        obtain ⟨v1, e1⟩ := R2.out.cell (o := k * 3 + 1) (by omega)
        obtain ⟨v2, e2⟩ := R2.out.cell (o := k * 3 + 2) (by omega)
        have f0 := R2.out.free (k * 3)
        have f1 := R2.out.free (k * 3 + 1)
        have f2 := R2.out.free (k * 3 + 2)
        go_wp2_with fail
        go_roundg (n - (k + 1))
        case measure => omega
        case rel => exact ⟨k + 1, by omega, by omega, by go_num, ST.out _ R2.out⟩
      · have k1 : ¬ (k : Int) < (n : Int) := by omega
        obtain rfl : k = n := by omega
        have BS := Lib.hid (R.out.brs HN.out)
        have HF := Lib.hid (has_br (some ⟨w.heap.size, 0, none⟩) k k (gtL s) wr _ _ BS.out (Nat.le_refl _) (by rw [gtL_length, HN.out]; omega))
        cases hh : (gtL s).any highB with
        | true =>
          have E := Lib.hid (gt_high HSH.out hh)
          rw [hh] at HF
          clear hh
          go_wp2_with fail
          refine HF.out.mono ?_
          rintro e w2 ⟨rfl, hb2⟩
          go_wp2_with fail
          go_ret2
          refine ⟨.slice none 0 0, ret_sl rfl E.out.1.symm, ?_, below_next R.out.bel R.out.bel.size hb2⟩
          rw [E.out.2]
          exact Brs.nil _ _ _
        | false =>
          have E := Lib.hid (gt_yes HSH.out hh)
          rw [hh] at HF
          clear hh
          go_wp2_with fail
          refine HF.out.mono ?_
          rintro e w2 ⟨rfl, hb2⟩
          go_wp2_with fail
          go_ret2
          refine ⟨_, ret_sl rfl E.out.1.symm, ?_, below_next R.out.bel R.out.bel.size hb2⟩
          rw [E.out.2]
          exact (BS.out.keep (Kept.of_below hb2 (Nat.le_refl _))).wide (Nat.le_refl _) hb2.size
  · have E := Lib.hid (gt_no (show shB s = false from by unfold shB; rw [hn]; simpa using hc))
    clear hn hgn hs
    have FIN := Lib.hid (show ∃ v, Ending.returned (.tuple #[Value.slice none 0 0, .int .i64 4]) = .returned (.tuple #[v, .int .i64 (gtE s)]) ∧ Brs w w.heap.size w.heap.size v (gtR s) ∧ Below w.heap.size w w from ⟨.slice none 0 0, ret_sl rfl E.out.1.symm, by rw [E.out.2]; exact Brs.nil _ _ _, Below.refl _ _⟩)
    by_cases c1 : (n : Int) < 1
    · go_enter Tryz.func160, Tryz.ntmps160
      go_wp2_with fail
      refine (C0.out _).mono ?_
      rintro e wz ⟨rfl, rfl⟩
      go_wp2_with fail
      go_ret2
      exact FIN.out
    · by_cases c2 : (3 : Int) < (n : Int)
      · go_enter Tryz.func160, Tryz.ntmps160
        go_wp2_with fail
        refine (C0.out _).mono ?_
        rintro e wz ⟨rfl, rfl⟩
        go_wp2_with fail
        go_ret2
        exact FIN.out
      · have c3 : ((s.size : Int) != 1 + (n : Int) * 8) = true := by simp; omega
        go_enter Tryz.func160, Tryz.ntmps160
        go_wp2_with fail
        refine (C0.out _).mono ?_
        rintro e wz ⟨rfl, rfl⟩
        go_wp2_with fail
        go_ret2
        exact FIN.out

end Go.Proofs.YtnmfjnfdnjjngaaGreatDoor

namespace Go.Proofs.YtnmfjnfdnjjngaaGreatDoor
open Go.RowKit
set_option maxRecDepth 100000

theorem any_high {xs : List BrD} {k : Nat} {x : BrD} (hx : xs[k]? = some x) (hh : highB x = true) : xs.any highB = true := List.any_eq_true.2 ⟨x, List.mem_of_getElem? hx, hh⟩
theorem any_low {xs : List BrD} (h : ∀ (j : Nat) (y : BrD), xs[j]? = some y → highB y = false) : xs.any highB = false := by
  rw [List.any_eq_false]
  intro y hy
  obtain ⟨j, hj⟩ := List.getElem?_of_mem hy
  rw [h j y hj]
  decide
theorem one_put {n : Nat} (h : n ≤ 3) : strOfNums [(n : Int)] = Oc.putS (n : Int) 1 := by
  have e : (n : Int) % 256 = n := by omega
  rw [show (1 : Int) = ((1 : Nat) : Int) from rfl, Oc.putS_yes (k := 1) (by decide)]
  simp [Oc.digs, e]

end Go.Proofs.YtnmfjnfdnjjngaaGreatDoor

namespace Go.Proofs.YtnmfjnfdnjjngaaGreatDoor
open Go.RowKit
set_option maxRecDepth 100000

theorem first_byte {s : ByteArray} (h : 0 < s.size) : Oc.getN s 0 1 = (s[0].toNat : Int) := by
  have e := Oc.getN_yes (s := s) (a := 0) (k := 1) (by decide) (by omega)
  have e2 := Oc.part_step s 0 0 (by omega)
  have e3 : Oc.part s 0 0 = [] := by simp [Oc.part]
  rw [e3] at e2
  have e4 : Oc.getN s 0 1 = Oc.num (Oc.part s 0 1) := e
  rw [e4, e2]
  simp [Oc.num]

/-- The cells of branches. -/
def brC (x : BrD) : List Value := [.int .u16 x.tag, .int .u16 x.del, .int .u32 x.hgt]
def brsC (xs : List BrD) : List Value := xs.flatMap brC
theorem brsC_snoc (xs : List BrD) (x : BrD) : brsC (xs ++ [x]) = brsC xs ++ [.int .u16 x.tag, .int .u16 x.del, .int .u32 x.hgt] := by simp [brsC, brC]
theorem brsC_at {xs : List BrD} {k : Nat} {x : BrD} (h : xs[k]? = some x) : (brsC xs)[k * 3]? = some (.int .u16 x.tag) ∧ (brsC xs)[k * 3 + 1]? = some (.int .u16 x.del) ∧ (brsC xs)[k * 3 + 2]? = some (.int .u32 x.hgt) := by
  induction xs generalizing k with
  | nil => simp at h
  | cons y r ih =>
    have e : brsC (y :: r) = .int .u16 y.tag :: .int .u16 y.del :: .int .u32 y.hgt :: brsC r := rfl
    rw [e]
    cases k with
    | zero =>
      simp at h
      subst h
      exact ⟨rfl, rfl, rfl⟩
    | succ k =>
      have h' : r[k]? = some x := by simpa using h
      have := ih h'
      rw [show (k + 1) * 3 = k * 3 + 3 from by omega]
      exact this
theorem own_brs {w : World} {base : Nat} {v : Value} {xs : List BrD} (h : w.ownsRow base 200 3 v xs.length (brsC xs)) : Brs w base w.heap.size v xs := by
  rcases h.2 with ⟨rfl, h0⟩ | ⟨g, cap, cur, rfl, hb, hg, hn, hm, hs, htk⟩
  · have : xs = [] := List.eq_nil_of_length_eq_zero h0
    subst this
    exact Brs.nil _ _ _
  · have hlt : g < w.heap.size := by
      rcases Nat.lt_or_ge g w.heap.size with h' | h'
      · exact h'
      · rw [Array.getElem?_eq_none h'] at hg; cases hg
    refine ⟨_, cap, rfl, hn, .inr ⟨g, 0, rfl, hb, hlt, fun k x hx => ?_⟩⟩
    obtain ⟨a0, a1, a2⟩ := brsC_at hx
    have hc := h.cells (g := g) rfl
    have c0 := hc _ _ a0
    have c1 := hc _ _ a1
    have c2 := hc _ _ a2
    simp only [Addr.add_lit, Nat.zero_add] at c0 c1 c2
    rw [Nat.zero_add]
    exact ⟨c0, c1, c2⟩
theorem lk_own_form {w : World} {base : Nat} {e : TypeId} {size n : Nat} {v : Value} {xs : List Value} (h : w.ownsRow base e size v n xs) : ∃ A c, v = .slice A n c := by
  rcases h.2 with ⟨rfl, h0⟩ | ⟨g, cap, cur, rfl, _⟩
  · exact ⟨none, 0, by rw [h0]⟩
  · exact ⟨_, _, rfl⟩
theorem lk_own_block {w : World} {base : Nat} {e : TypeId} {size n : Nat} {v : Value} {xs : List Value} (h : w.ownsRow base e size v n xs) : ∀ k, v.ownBlock = some k → base ≤ k := by
  intro k hk
  rcases h.2 with ⟨rfl, _⟩ | ⟨g, cap, cur, rfl, hb, _⟩
  · simp [Value.ownBlock] at hk
  · simp [Value.ownBlock] at hk
    omega
theorem three_new (w : World) (a b c : Value) (t : TypeId) : ∀ j u, [a, b, c][j]? = some u → (w.alloc (.cells #[a, b, c] t)).cell? ((⟨w.heap.size, 0, none⟩ : Addr).add j) = some u := by
  intro j u hj
  rw [Addr.add_lit]
  match j, hj with
  | 0, hj => simp at hj; subst hj; simp
  | 1, hj => simp at hj; subst hj; simp
  | 2, hj => simp at hj; subst hj; simp
theorem gtL_at {s : ByteArray} {k : Nat} (h : k < gtN s) : (gtL s)[k]? = some (brG s (1 + k * 8)) := by
  unfold gtL
  rw [List.getElem?_map, List.getElem?_range h]
  rfl

set_option maxHeartbeats 4000000 in
set_option maxRecDepth 100000 in
theorem rlget_any (s : ByteArray) (w : World) (hs : s.size ≤ maxLen) :
    Calls Tryz.prog 101 #[.string s] w fun e w' => ∃ v, e = .returned v ∧ Brs w' w.heap.size w'.heap.size v (gtR s) ∧ Below w.heap.size w w' := by
  obtain ⟨i0, hi0, y0, y1, y2⟩ := info_parts' info34
  by_cases hc : s.size = 9 ∨ s.size = 17 ∨ s.size = 25
  · obtain ⟨n, hn, hn1, hn3⟩ : ∃ n : Nat, s.size = 1 + n * 8 ∧ 1 ≤ n ∧ n ≤ 3 := by
      rcases hc with h | h | h
      · exact ⟨1, by omega, by omega, by omega⟩
      · exact ⟨2, by omega, by omega, by omega⟩
      · exact ⟨3, by omega, by omega, by omega⟩
    have hp : 0 < s.size := by omega
    have hfb := first_byte hp
    obtain ⟨z, hz⟩ : ∃ z, s.size = z := ⟨_, rfl⟩
    obtain ⟨m, hm⟩ : ∃ m : Nat, m = n * 8 := ⟨_, rfl⟩
    have e1 : (s.size : Int) - 1 = (m : Int) := by omega
    have e2 : IntKind.i64.wrap (m : Int) = (m : Int) := by rw [IntWalk.i64_in _ (by omega)]
    have e3 : (m : Int).tdiv 8 = (n : Int) := by rw [Int.tdiv_eq_ediv_of_nonneg (by omega)]; omega
    have e4 : IntKind.i64.wrap (n : Int) = (n : Int) := by rw [IntWalk.i64_in _ (by omega)]
    have hsel : ((s.size : Int) != 9) = false ∨ (((s.size : Int) != 9) = true ∧ ((s.size : Int) != 17) = false) ∨ (((s.size : Int) != 9) = true ∧ ((s.size : Int) != 17) = true ∧ ((s.size : Int) != 25) = false) := by
      simp only [bne_eq_false_iff_eq, bne_iff_ne, ne_eq]
      omega
    have HN := Lib.hid hn
    have HSZ := Lib.hid hs
    have hbd := (s[0]).toNat_lt
    obtain ⟨f, hf⟩ : ∃ f : Nat, s[0].toNat = f := ⟨_, rfl⟩
    rw [hf] at hfb hbd
    have e5 : IntKind.i64.wrap (f : Int) = (f : Int) := by rw [IntWalk.i64_in _ (by omega)]
    by_cases hfn : f = n
    · subst hfn
      have hgn : gtN s = f := by unfold gtN; rw [hfb]; omega
      have hsh : shB s = true := by unfold shB; rw [hgn]; simpa using ⟨hn1, hn3, hn⟩
      have c1 : ((f : Int) != (f : Int)) = false := by simp
      have HGN := Lib.hid hgn
      have HSH := Lib.hid hsh
      clear hc hn hz hm hfb hgn hsh hs
      rcases hsel with q1 | ⟨q1, q2⟩ | ⟨q1, q2, q3⟩
      all_goals
        go_enter Tryz.func101, Tryz.ntmps101
        go_wp2_with fail
        go_loopg [4, 5, 6, 7, 8, 9, 10, 11] f (fun gg s4 s5 _ _ _ _ _ _ wr => ∃ (k : Nat) (v : Value), k ≤ f ∧ f - k ≤ gg ∧ s5 = .int .i64 k ∧ s4 = v ∧ Hid (wr.ownsRow w.heap.size 200 3 v k (brsC ((gtL s).take k))) ∧ Hid (∀ j, j < k → highB (brG s (1 + j * 8)) = false) ∧ Hid (Below w.heap.size w wr))
        case atStart => exact ⟨0, .slice none 0 0, Nat.zero_le _, by omega, rfl, rfl, World.ownsRow_nil _ _ 200 3, fun j hj => absurd hj (Nat.not_lt_zero _), Below.refl _ _⟩
        case round =>
          obtain ⟨k, v, hk, hg, rfl, hv, OW, A0, BW⟩ := hrel
          replace hv := hv.symm
          subst hv
          by_cases hlt : k < f
          · have k1 : (k : Int) < (f : Int) := by omega
            have k2 : decide (k < f) = true := decide_eq_true hlt
            obtain ⟨A, c, rfl⟩ := lk_own_form OW.out
            obtain ⟨a1, ha1⟩ : ∃ a : Nat, a = 1 + k * 8 := ⟨_, rfl⟩
            obtain ⟨a3, ha3⟩ : ∃ a : Nat, a = a1 + 2 := ⟨_, rfl⟩
            obtain ⟨a5, ha5⟩ : ∃ a : Nat, a = a1 + 4 := ⟨_, rfl⟩
            have p1 : 1 + 8 * (k : Int) = (a1 : Int) := by omega
            have p3 : 3 + 8 * (k : Int) = (a3 : Int) := by omega
            have p5 : 5 + 8 * (k : Int) = (a5 : Int) := by omega
            have p0 : IntKind.i64.wrap (8 * (k : Int)) = 8 * (k : Int) := by rw [IntWalk.i64_in _ (by omega)]
            have w1 : IntKind.i64.wrap (a1 : Int) = (a1 : Int) := by rw [IntWalk.i64_in _ (by omega)]
            have w3 : IntKind.i64.wrap (a3 : Int) = (a3 : Int) := by rw [IntWalk.i64_in _ (by omega)]
            have w5 : IntKind.i64.wrap (a5 : Int) = (a5 : Int) := by rw [IntWalk.i64_in _ (by omega)]
            have C1 := Lib.hid (fun W => Oc.rget_any s (a1 : Int) 2 W HSZ.out)
            have C3 := Lib.hid (fun W => Oc.rget_any s (a3 : Int) 2 W HSZ.out)
            have C5 := Lib.hid (fun W => Oc.rget_any s (a5 : Int) 4 W HSZ.out)
            unfold Oc.GetEnd at C1 C3 C5
            have b1 := getN_bd2 s (a1 : Int)
            have b3 := getN_bd2 s (a3 : Int)
            have b5 := getN_bd4 s (a5 : Int)
            have EG := Lib.hid (show brG s (1 + k * 8) = ⟨Oc.getN s (a1 : Int) 2, Oc.getN s (a3 : Int) 2, Oc.getN s (a5 : Int) 4⟩ from by rw [← ha1, ha3, ha5]; rfl)
            generalize Oc.getN s (a1 : Int) 2 = x1 at C1 b1 EG
            generalize Oc.getN s (a3 : Int) 2 = x2 at C3 b3 EG
            generalize Oc.getN s (a5 : Int) 4 = x3 at C5 b5 EG
            generalize Oc.okB s (a1 : Int) 2 = t1 at C1
            generalize Oc.okB s (a3 : Int) 2 = t3 at C3
            generalize Oc.okB s (a5 : Int) 4 = t5 at C5
            have u1 : IntKind.u16.wrap x1 = x1 := by rw [IntWalk.u16_in _ (by omega)]
            have u2 : IntKind.u16.wrap x2 = x2 := by rw [IntWalk.u16_in _ (by omega)]
            have u3 : IntKind.u32.wrap x3 = x3 := by rw [IntWalk.u32_in _ (by omega)]
            have hat := gtL_at (s := s) (k := k) (by rw [HGN.out]; exact hlt)
            have TS := Lib.hid (show (gtL s).take (k + 1) = (gtL s).take k ++ [⟨x1, x2, x3⟩] from by rw [List.take_add_one, hat, EG.out]; rfl)
            have ANY := Lib.hid (fun h : highB ⟨x1, x2, x3⟩ = true => any_high hat (by rw [EG.out]; exact h))
            clear hat ha1 ha3 ha5
            go_wp2_with fail
            refine (C1.out _).mono ?_
            rintro e wz ⟨rfl, rfl⟩
            go_wp2_with fail
            refine (C3.out _).mono ?_
            rintro e wz ⟨rfl, rfl⟩
            go_wp2_with fail
            refine (C5.out _).mono ?_
            rintro e wz ⟨rfl, rfl⟩
            cases hq : highB ⟨x1, x2, x3⟩ with
            | true =>
              have h6 : (1000000 : Int) < x3 := by simpa [highB] using hq
              have E := Lib.hid (gt_high HSH.out (ANY.out hq))
              clear hq
              go_wp2_with fail
              go_ret
              exact ⟨_, rfl, by rw [E.out.2]; exact Brs.nil _ _ _, BW.out⟩
            | false =>
              have h6 : ¬ (1000000 : Int) < x3 := by simpa [highB] using hq
              have HQ := Lib.hid hq
              clear hq
              go_wp2_with (at_builtin; refine wpList_append_own _ rfl _ _ 196 rfl w.heap.size 200 i0 _ 3 8 Tryz.underlying196 hi0 y0 y1 y2 rfl (by decide) _ _ _ rfl (OW.out.alloc _) ⟨wr.heap.size, 0, none⟩ 1 1 [.int .u16 x1, .int .u16 x2, .int .u32 x3] rfl rfl (three_new _ _ _ _ _) (by intro u hu; simp at hu; rcases hu with rfl | rfl | rfl <;> rfl) (by unfold maxLen; omega) (by omega) (by have := BW.out.size; simp; omega) ?_; intro v' w9 hown' hgrow _; have HOW := Lib.hid hown'; have HGR := Lib.hid hgrow; clear hown' hgrow)
              go_roundg (f - (k + 1))
              case measure => omega
              case rel =>
                refine ⟨k + 1, _, by omega, by omega, by go_num, rfl, by rw [TS.out, brsC_snoc]; exact HOW.out, fun j hj => ?_, (BW.out.alloc BW.out.size _).grown HGR.out (by have := BW.out.size; simp; omega) (lk_own_block OW.out)⟩
                by_cases e : j = k
                · subst e; rw [EG.out]; exact HQ.out
                · exact A0.out j (by omega)
          · have k1 : ¬ (k : Int) < (f : Int) := by omega
            obtain rfl : k = f := by omega
            have E := Lib.hid (gt_yes HSH.out (any_low fun j y hy => by obtain ⟨rfl, hj⟩ := gtL_get hy; exact A0.out j (by have := HGN.out; omega)))
            have BS := Lib.hid (show Brs wr w.heap.size wr.heap.size v (gtL s) from own_brs (by
              have h := OW.out
              rw [List.take_of_length_le (by rw [gtL_length, HGN.out]; exact Nat.le_refl _)] at h
              rw [gtL_length, HGN.out]
              exact h))
            go_wp2_with fail
            go_ret
            exact ⟨v, rfl, by rw [E.out.2]; exact BS.out, BW.out⟩
    · have c1 : ((f : Int) != (n : Int)) = true := by simp; omega
      have hsh : shB s = false := by
        unfold shB gtN
        rw [hfb]
        simp
        omega
      have E := Lib.hid (gt_no hsh)
      clear hc hn hz hm hfb hsh hs hfn
      rcases hsel with q1 | ⟨q1, q2⟩ | ⟨q1, q2, q3⟩
      all_goals
        go_enter Tryz.func101, Tryz.ntmps101
        go_wp2_with fail
        go_ret
        exact ⟨_, rfl, by rw [E.out.2]; exact Brs.nil _ _ _, Below.refl _ _⟩
  · have hsh : shB s = false := by
      unfold shB
      simp
      omega
    have E := Lib.hid (gt_no hsh)
    have q1 : ((s.size : Int) != 9) = true := by simp; omega
    have q2 : ((s.size : Int) != 17) = true := by simp; omega
    have q3 : ((s.size : Int) != 25) = true := by simp; omega
    clear hc hsh hs
    go_enter Tryz.func101, Tryz.ntmps101
    go_wp2_with fail
    go_ret
    exact ⟨_, rfl, by rw [E.out.2]; exact Brs.nil _ _ _, Below.refl _ _⟩

end Go.Proofs.YtnmfjnfdnjjngaaGreatDoor

namespace Go.Proofs.YtnmfjnfdnjjngaaGreatDoor
open Go.RowKit
set_option maxRecDepth 100000

/-- The error of Sign, its text. -/
def sgE (b : Int) : Int := if b < 0 ∨ 3 ≤ b then 2 else 0
def sgS (b t : Int) : ByteArray := Oc.putS b 1 ++ Oc.putS t 2
def sgL (b t : Int) : List ByteArray := if sgE b = 0 then [sgS b t] else []
theorem one_str (W : World) (s : ByteArray) : Strs (W.alloc (.cells #[.string s] 9)) W.heap.size (W.heap.size + 1) (.slice (some ⟨W.heap.size, 0, none⟩) 1 1) [s] := by
  refine ⟨_, 1, rfl, Nat.le_refl _, .inr ⟨W.heap.size, 0, rfl, Nat.le_refl _, Nat.lt_succ_self _, fun k x hx => ?_⟩⟩
  match k, hx with
  | 0, hx =>
    simp at hx
    subst hx
    simp

/-- What Signed tells: whether it is a witness, the branch, the tag. -/
def snB (ws : List ByteArray) : Bool := match ws with | [s] => decide (s.size = 3 ∧ Oc.getN s 0 1 < 3) | _ => false
def snE (ws : List ByteArray) : Int := if snB ws = true then 0 else 4
def snN (ws : List ByteArray) : Int := match ws with | [s] => if snB ws = true then Oc.getN s 0 1 else 0 | _ => 0
def snT (ws : List ByteArray) : Int := match ws with | [s] => if snB ws = true then Oc.getN s 1 2 else 0 | _ => 0
theorem sn_not {ws : List ByteArray} (h : snB ws = false) : snE ws = 4 ∧ snN ws = 0 ∧ snT ws = 0 := by
  refine ⟨by unfold snE; rw [if_neg (by rw [h]; decide)], ?_, ?_⟩
  · unfold snN
    split
    · rw [if_neg (by rw [h]; decide)]
    · rfl
  · unfold snT
    split
    · rw [if_neg (by rw [h]; decide)]
    · rfl
theorem sn_len {ws : List ByteArray} (h : ws.length ≠ 1) : snB ws = false := by
  match ws, h with
  | [], _ => rfl
  | [s], h => exact absurd rfl h
  | _ :: _ :: _, _ => rfl
theorem ret_three {a b c d e f : Int} (h1 : a = d) (h2 : b = e) (h3 : c = f) : Ending.returned (.tuple #[.int .i64 a, .int .u16 b, .int .i64 c]) = .returned (.tuple #[.int .i64 d, .int .u16 e, .int .i64 f]) := by rw [h1, h2, h3]

set_option maxHeartbeats 1000000 in
theorem signed_any (ws : List ByteArray) (v : Value) (w : World) (lo hi : Nat) (hw : Strs w lo hi v ws) (hs : ∀ s ∈ ws, s.size ≤ maxLen) (hl : ws.length ≤ maxLen) :
    Calls Tryz.prog 161 #[v] w fun e w' => e = .returned (.tuple #[.int .i64 (snN ws), .int .u16 (snT ws), .int .i64 (snE ws)]) ∧ w = w' := by
  obtain ⟨A, c, rfl⟩ : ∃ A c, v = .slice A ws.length c := by obtain ⟨A, c, rfl, _⟩ := hw; exact ⟨A, c, rfl⟩
  by_cases h1 : ws.length = 1
  · obtain ⟨s, rfl⟩ := List.length_eq_one_iff.1 h1
    obtain ⟨b, off, rfl, _, _, cs⟩ := hw.at (k := 0) (by simp)
    simp only [List.getD_cons_zero, Nat.add_zero] at cs
    have hss := hs s (by simp)
    by_cases h3 : s.size = 3
    · have C0 := Lib.hid (fun W => Oc.get_any s 0 1 W hss)
      have C1 := Lib.hid (fun W => Oc.get_any s 1 2 W hss)
      unfold Oc.GetEnd at C0 C1
      have b0 := getN_bd1 s 0
      have b1 := getN_bd2 s 1
      have ES := Lib.hid (show snB [s] = decide (Oc.getN s 0 1 < 3) ∧ (snB [s] = true → snN [s] = Oc.getN s 0 1 ∧ snT [s] = Oc.getN s 1 2) from ⟨by simp [snB, h3], fun h => ⟨by show (if snB [s] = true then Oc.getN s 0 1 else 0) = _; rw [if_pos h], by show (if snB [s] = true then Oc.getN s 1 2 else 0) = _; rw [if_pos h]⟩⟩)
      generalize Oc.getN s 0 1 = x at C0 b0 ES
      generalize Oc.getN s 1 2 = y at C1 b1 ES
      generalize Oc.okB s 0 1 = t0 at C0
      generalize Oc.okB s 1 2 = t1 at C1
      have q1 : ((s.size : Int) != 3) = false := by rw [h3]; rfl
      have u1 : IntKind.i64.wrap x = x := by rw [IntWalk.i64_in _ (by omega)]
      have u2 : IntKind.u16.wrap y = y := by rw [IntWalk.u16_in _ (by omega)]
      simp only [List.length_cons, List.length_nil, Nat.zero_add]
      clear h3 hss hs hw h1 hl
      by_cases hx : x < 3
      · have hb : snB [s] = true := by rw [ES.out.1]; simpa using hx
        have FIN := Lib.hid (show snN [s] = x ∧ snT [s] = y ∧ snE [s] = 0 from ⟨(ES.out.2 hb).1, (ES.out.2 hb).2, by unfold snE; rw [if_pos hb]⟩)
        have hx' : ¬ 3 ≤ x := by omega
        clear hb
        go_enter Tryz.func161, Tryz.ntmps161
        go_wp2_with fail
        refine (C0.out _).mono ?_
        rintro e wz ⟨rfl, rfl⟩
        go_wp2_with fail
        refine (C1.out _).mono ?_
        rintro e wz ⟨rfl, rfl⟩
        go_wp2_with fail
        refine bodyPost_ret (v := .tuple #[.int .i64 x, .int .u16 y, .int .i64 0]) (by simp [results, Tryz.results161, go_sem]) rfl ?_
        exact ⟨ret_three FIN.out.1.symm FIN.out.2.1.symm FIN.out.2.2.symm, rfl⟩
      · have hb : snB [s] = false := by rw [ES.out.1]; simpa using hx
        have FIN := Lib.hid (sn_not hb)
        have hx' : 3 ≤ x := by omega
        clear hb
        go_enter Tryz.func161, Tryz.ntmps161
        go_wp2_with fail
        refine (C0.out _).mono ?_
        rintro e wz ⟨rfl, rfl⟩
        go_wp2_with fail
        refine (C1.out _).mono ?_
        rintro e wz ⟨rfl, rfl⟩
        go_wp2_with fail
        refine bodyPost_ret (v := .tuple #[.int .i64 0, .int .u16 0, .int .i64 4]) (by simp [results, Tryz.results161, go_sem]) rfl ?_
        exact ⟨ret_three FIN.out.2.1.symm FIN.out.2.2.symm FIN.out.1.symm, rfl⟩
    · have FIN := Lib.hid (sn_not (show snB [s] = false from by simp [snB, h3]))
      have q1 : ((s.size : Int) != 3) = true := by simp; omega
      simp only [List.length_cons, List.length_nil, Nat.zero_add]
      clear h3 hss hs hw h1 hl
      go_enter Tryz.func161, Tryz.ntmps161
      go_wp2_with fail
      refine bodyPost_ret (v := .tuple #[.int .i64 0, .int .u16 0, .int .i64 4]) (by simp [results, Tryz.results161, go_sem]) rfl ?_
      exact ⟨ret_three FIN.out.2.1.symm FIN.out.2.2.symm FIN.out.1.symm, rfl⟩
  · have FIN := Lib.hid (sn_not (sn_len h1))
    have q1 : ((ws.length : Int) != 1) = true := by simp; omega
    have hl' : ws.length ≤ 9223372036854775807 := by unfold maxLen at hl; omega
    clear h1 hs hw hl
    go_enter Tryz.func161, Tryz.ntmps161
    go_wp2_with fail
    refine bodyPost_ret (v := .tuple #[.int .i64 0, .int .u16 0, .int .i64 4]) (by simp [results, Tryz.results161, go_sem]) rfl ?_
    exact ⟨ret_three FIN.out.2.1.symm FIN.out.2.2.symm FIN.out.1.symm, rfl⟩

/-- The Sequence of a branch. -/
def sqN (x : BrD) : Int := if 0 < x.del then x.del else 4294967293
end Go.Proofs.YtnmfjnfdnjjngaaGreatDoor
