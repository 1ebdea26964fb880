/-
  Acts as plain data, and how they lie in memory; the point and the coin of an act.
-/
import Derived.Test.YtdchbeomlfancaaLf
import Derived.BigRegion
import Derived.RegionTactic
import Derived.Deep.CutBlock
import Derived.Deep.RegionWith
namespace Go.Proofs.Ytdchbeomlfancaa
open Go.RowKit

/-- An act. -/
structure AcD where
  dd : Int
  id8 : Int
  ix8 : Int
  val : Int
  ht : Int
  scr : ByteArray
  rid : ByteArray
  rix : Int
  odd : Bool
/-- What an act that came in is. -/
def AcD.Ok (a : AcD) : Prop := 0 ≤ a.dd ∧ a.dd ≤ 255 ∧ 0 ≤ a.id8 ∧ a.id8 ≤ 255 ∧ 0 ≤ a.ix8 ∧ a.ix8 ≤ 255 ∧ -9223372036854775808 ≤ a.val ∧ a.val ≤ 9223372036854775807 ∧ -9223372036854775808 ≤ a.ht ∧ a.ht ≤ 9223372036854775807 ∧ a.scr.size ≤ maxLen ∧ a.rid.size ≤ maxLen ∧ 0 ≤ a.rix ∧ a.rix ≤ 4294967295
/-- Its nine cells, as a block of its own. -/
def acL (a : AcD) : Array Value := #[.int .u8 a.dd, .int .u8 a.id8, .int .u8 a.ix8, .int .i64 a.val, .int .i64 a.ht, .string a.scr, .string a.rid, .int .u32 a.rix, .bool a.odd]
def AcAt (w : World) (b o : Nat) (a : AcD) : Prop :=
  w.cell? ⟨b, o, none⟩ = some (.int .u8 a.dd) ∧ w.cell? ⟨b, o + 1, none⟩ = some (.int .u8 a.id8) ∧ w.cell? ⟨b, o + 2, none⟩ = some (.int .u8 a.ix8) ∧ w.cell? ⟨b, o + 3, none⟩ = some (.int .i64 a.val) ∧ w.cell? ⟨b, o + 4, none⟩ = some (.int .i64 a.ht) ∧
    w.cell? ⟨b, o + 5, none⟩ = some (.string a.scr) ∧ w.cell? ⟨b, o + 6, none⟩ = some (.string a.rid) ∧ w.cell? ⟨b, o + 7, none⟩ = some (.int .u32 a.rix) ∧ w.cell? ⟨b, o + 8, none⟩ = some (.bool a.odd)
theorem AcAt.block {w w' : World} {b o : Nat} {a : AcD} (h : AcAt w b o a) (hk : w'.heap[b]? = w.heap[b]?) : AcAt w' b o a := by
  have e := fun o => World.cell?_of_block (w := w) (a := ⟨b, o, none⟩) hk
  unfold AcAt at *
  simp only [e]
  exact h
theorem AcAt.new (w : World) (a : AcD) : AcAt (w.alloc (.cells (acL a) 30)) w.heap.size 0 a := by
  have hn := heap_alloc_new w (.cells (acL a) 30)
  exact ⟨cell_in (o := 0) hn rfl, cell_in (o := 1) hn rfl, cell_in (o := 2) hn rfl, cell_in (o := 3) hn rfl, cell_in (o := 4) hn rfl, cell_in (o := 5) hn rfl, cell_in (o := 6) hn rfl, cell_in (o := 7) hn rfl, cell_in (o := 8) hn rfl⟩
/-- The acts xs lie in the slice v. -/
def Acts (w : World) (lo hi : Nat) (v : Value) (xs : List AcD) : Prop :=
  ∃ (A : Option Addr) (c : Nat), v = .slice A xs.length c ∧ xs.length ≤ c ∧ (xs = [] ∨ ∃ b off, A = some ⟨b, off, none⟩ ∧ lo ≤ b ∧ b < hi ∧ ∀ k x, xs[k]? = some x → AcAt w b (off + k * 9) x)
theorem Acts.keep {w w' : World} {lo hi : Nat} {v : Value} {xs : List AcD} (h : Acts w lo hi v xs) (hk : Kept lo hi w w') : Acts w' lo hi v xs := by
  obtain ⟨A, c, rfl, hc, h⟩ := h
  refine ⟨A, c, rfl, hc, ?_⟩
  rcases h with h | ⟨b, off, rfl, h1, h2, h⟩
  · exact .inl h
  · exact .inr ⟨b, off, rfl, h1, h2, fun k s hs => (h k s hs).block (hk b h1 h2)⟩
theorem Acts.form {w : World} {lo hi : Nat} {v : Value} {xs : List AcD} (h : Acts w lo hi v xs) : ∃ A c, v = .slice A xs.length c := by
  obtain ⟨A, c, rfl, _⟩ := h
  exact ⟨A, c, rfl⟩
theorem Acts.at {w : World} {lo hi : Nat} {A : Option Addr} {n c : Nat} {xs : List AcD} (h : Acts w lo hi (.slice A n c) xs) {k : Nat} {x : AcD} (hx : xs[k]? = some x) :
    ∃ b off, A = some ⟨b, off, none⟩ ∧ lo ≤ b ∧ b < hi ∧ AcAt w b (off + k * 9) x := by
  obtain ⟨A', c', hv, hc, h⟩ := h
  injection hv with hA
  subst hA
  rcases h with rfl | ⟨b, off, rfl, h1, h2, h⟩
  · simp at hx
  · exact ⟨b, off, rfl, h1, h2, h k x hx⟩
theorem Acts.take {w : World} {lo hi : Nat} {A : Option Addr} {n c : Nat} {xs : List AcD} (h : Acts w lo hi (.slice A n c) xs) {p : Nat} (hp : p ≤ xs.length) : Acts w lo hi (.slice A p c) (xs.take p) := by
  obtain ⟨A', c', hv, hc, h⟩ := h
  injection hv with e1 _ e3
  subst e1 e3
  refine ⟨A, c, by rw [List.length_take, Nat.min_eq_left hp], by rw [List.length_take]; omega, ?_⟩
  rcases h with rfl | ⟨b, off, rfl, h1, h2, h⟩
  · exact .inl (by simp)
  · refine .inr ⟨b, off, rfl, h1, h2, fun k x hx => h k x ?_⟩
    rw [List.getElem?_take] at hx
    split at hx
    · exact hx
    · cases hx
theorem Acts.cap {w : World} {lo hi : Nat} {A : Option Addr} {n c : Nat} {xs : List AcD} (h : Acts w lo hi (.slice A n c) xs) : xs.length ≤ c := by
  obtain ⟨A', c', hv, hc, h⟩ := h
  injection hv with _ _ e3
  subst e3
  exact hc
theorem run_min_nat (c : Nat) (ts : Array TypeId) (t : TypeId) (x : Nat) (w : World) : (Builtin.min_ ts t #[.int .i64 (x : Int), .int .i64 (c : Int)]).run Try.prog w = .ok (.int .i64 (min x c : Nat)) w := by
  rw [run_min_int2 w ts t .i64 .i64 x c]
  by_cases h : (c : Int) < x
  · rw [if_pos h, Nat.min_eq_right (by omega)]
  · rw [if_neg h, Nat.min_eq_left (by omega)]

theorem text1 : ∀ (W : World) (b : Nat) (x : Int), W.cell? ⟨b, 0, none⟩ = some (.int .u8 x) → (convert 72 9 (.slice (some ⟨b, 0, none⟩) 1 1)).run Try.prog W = .ok (.string (strOfNums [x])) W := fun W b x h => by
  refine run_convert_bytes_arg W 72 5 Try.underlying72 Try.underlying5 b 0 1 1 [x] rfl (fun i hi => ?_) 9 Try.underlying9
  obtain rfl : i = 0 := by omega
  exact h

/-- The document's ID of a number, byte by byte. -/
def idT (n : Int) : Nat → ByteArray
  | 0 => ⟨#[]⟩
  | k + 1 => idT n k ++ strOfNums [bits BinOp.xor IntKind.u8 (n / 2 ^ (k % 8) % 256) (k : Int)]
theorem idT_size (n : Int) : ∀ k, (idT n k).size = k
  | 0 => rfl
  | k + 1 => by
    unfold idT
    rw [ByteArray.size_append, idT_size n k, strOfNums_size]
    rfl

set_option maxHeartbeats 1000000 in
theorem id_det (n : Int) (w : World) :
    Calls Try.prog 23 #[.int .i64 n] w fun e w' => e = .returned (.string (idT n 32)) ∧ Below w.heap.size w w' := by
  have htx := text1
  go_enter Try.func23, Try.ntmps23
  go_wp2_with fail
  go_loopg [3, 4] 32 (fun gg s c wr => ∃ (k : Nat) (t : ByteArray), k ≤ 32 ∧ 32 - k ≤ gg ∧ c = .int .i64 k ∧ s = .string t ∧ Hid (t = idT n k) ∧ Hid (Below w.heap.size w wr))
  case atStart => exact ⟨0, _, Nat.zero_le _, by omega, rfl, rfl, rfl, Below.refl _ _⟩
  case round =>
    obtain ⟨k, t, hk, hg, rfl, rfl, ht, HB⟩ := hrel
    by_cases hlt : k < 32
    · have h1 : (k : Int) < 32 := by omega
      have hd : decide ((k : Int) < 32) = true := decide_eq_true h1
      have htk : t.size = k := by rw [ht.out]; exact idT_size n k
      have hadd : ∀ (W : World) (x : Int), (Op.stringOp .add t (strOfNums [x])).run Try.prog W = .ok (.string (t ++ strOfNums [x])) W := fun W x => run_string_add_sum (w := W) t _ (by rw [strOfNums_size]; simp; omega)
      clear htk
      go_wp2_with fail
      go_roundg (32 - (k + 1))
      case measure => omega
      case rel => exact ⟨k + 1, _, by omega, by omega, by go_num, rfl, Lib.hid (by rw [ht.out]; rfl), HB.out.alloc HB.out.size _⟩
    · have h1 : ¬ (k : Int) < 32 := by omega
      have hk32 : k = 32 := by omega
      have HT := Lib.hid (show t = idT n 32 from by rw [ht.out, hk32])
      clear hk32
      go_wp2_with fail
      go_ret
      exact ⟨by rw [HT.out]; rfl, HB.out⟩
/-- Some text of 32 bytes. -/
theorem id_any (n : Int) (w : World) :
    Calls Try.prog 23 #[.int .i64 n] w fun e w' => ∃ s : ByteArray, e = .returned (.string s) ∧ s.size = 32 ∧ Below w.heap.size w w' :=
  (id_det n w).mono fun _ _ ⟨he, hb⟩ => ⟨_, he, idT_size n 32, hb⟩

/-- At most 40 bytes. -/
def cut40 (s : ByteArray) : ByteArray := s.extract 0 (min (s.size : Int) 40).toNat
theorem cut40_size (s : ByteArray) : (cut40 s).size ≤ 40 := by
  unfold cut40
  rw [ByteArray.size_extract]
  omega

set_option maxHeartbeats 1000000 in
theorem coin_any (a : AcD) (w : World) (h : a.Ok) :
    Calls Try.prog 14 #[.agg (acL a)] w fun e w' => e = .returned (.agg #[.int .i64 a.val, .string (cut40 a.scr), .int .i64 a.ht]) ∧ Below w.heap.size w w' := by
  obtain ⟨d, i8, x8, v, t, s, rid, rix, od⟩ := a
  have hsz := h.2.2.2.2.2.2.2.2.2.2.1
  simp only at hsz
  have hss : s.size ≤ 9223372036854775807 := by unfold maxLen at hsz; omega
  have hs : s.extract 0 (min (s.size : Int) 40).toNat = cut40 s := rfl
  obtain ⟨c, hc⟩ : ∃ c, c = cut40 s := ⟨_, rfl⟩
  rw [← hc] at hs ⊢
  obtain ⟨W, hW⟩ : ∃ W, W = (w.alloc (.cells #[.int .u8 d, .int .u8 i8, .int .u8 x8, .int .i64 v, .int .i64 t, .string s, .string rid, .int .u32 rix, .bool od] 30)).alloc (.cells #[.int .i64 0, .string ⟨#[]⟩, .int .i64 0] 35) := ⟨_, rfl⟩
  have hz : W.heap.size = w.heap.size + 2 := by rw [hW]; simp
  have hB := Lib.hid (show Below w.heap.size w W from by rw [hW]; exact ((Below.refl _ _).alloc (Nat.le_refl _) _).alloc (by simp) _)
  have h30 : W.heap[w.heap.size]? = some (.cells #[.int .u8 d, .int .u8 i8, .int .u8 x8, .int .i64 v, .int .i64 t, .string s, .string rid, .int .u32 rix, .bool od] 30) := by
    rw [hW, Below.heap_alloc _ _ _ (by simp)]
    exact heap_alloc_new _ _
  have h35 : W.heap[w.heap.size + 1]? = some (.cells #[.int .i64 0, .string ⟨#[]⟩, .int .i64 0] 35) := by
    rw [hW, show w.heap.size + 1 = (w.alloc (.cells #[.int .u8 d, .int .u8 i8, .int .u8 x8, .int .i64 v, .int .i64 t, .string s, .string rid, .int .u32 rix, .bool od] 30)).heap.size from by simp]
    exact heap_alloc_new _ _
  have c3 := cell_in (o := 3) (v := .int .i64 v) h30 rfl
  have c4 := cell_in (o := 4) (v := .int .i64 t) h30 rfl
  have c5 := cell_in (o := 5) (v := .string s) h30 rfl
  have z0 := cell_in (o := 0) (v := .int .i64 0) h35 rfl
  have z1 := cell_in (o := 1) (v := .string ⟨#[]⟩) h35 rfl
  have z2 := cell_in (o := 2) (v := .int .i64 0) h35 rfl
  have zf := fun k => Lib.frozen_of_heap h35 k
  have HW := Lib.hid hW
  clear hsz hc h hW h30 h35
  show Calls Try.prog 14 #[.agg #[.int .u8 d, .int .u8 i8, .int .u8 x8, .int .i64 v, .int .i64 t, .string s, .string rid, .int .u32 rix, .bool od]] w _
  go_enter Try.func14, Try.ntmps14
  go_upto_region 1 with (fail)
  rw [show World.alloc (World.alloc w _) _ = W from HW.out.symm]
  go_region
  go_wp2_with fail
  obtain ⟨q0, q1, q2⟩ := setCo_cells z0 z1 z2 v c t
  have N5 := Lib.hid (setCo_below hB.out (by omega : w.heap.size ≤ w.heap.size + 1) v c t).drew
  obtain ⟨W5, hW5⟩ : ∃ W5, W5 = (setCo W (w.heap.size + 1) v c t).drew := ⟨_, rfl⟩
  have x0 : W5.cell? ⟨w.heap.size + 1, 0, none⟩ = some (.int .i64 v) := by rw [hW5]; exact q0
  have x1 : W5.cell? ⟨w.heap.size + 1, 1, none⟩ = some (.string c) := by rw [hW5]; exact q1
  have x2 : W5.cell? ⟨w.heap.size + 1, 2, none⟩ = some (.int .i64 t) := by rw [hW5]; exact q2
  rw [← hW5] at N5
  unfold setCo at hW5
  rw [← hW5]
  refine bodyPost_ret (v := .agg #[.int .i64 v, .string c, .int .i64 t]) (by simp [results, Try.results14, go_sem, x0, x1, x2]) rfl ?_
  exact ⟨rfl, N5.out⟩

end Go.Proofs.Ytdchbeomlfancaa
