/-
  What is put is got again; what is got is put as it was.
-/
import Derived.Test.YtdldhfhhhjenkaaRget
namespace Go.Proofs.Ytdldhfhhhjenkaa
open Go.RowKit

theorem nums_app (a b : ByteArray) : Oc.nums (a ++ b) = Oc.nums a ++ Oc.nums b := by
  unfold Oc.nums
  rw [ByteArray.data_append, Array.toList_append, List.map_append]
theorem nums_inj {a b : ByteArray} (h : Oc.nums a = Oc.nums b) : a = b := by rw [← Oc.strOfNums_nums a, ← Oc.strOfNums_nums b, h]
theorem nums_put (n : Int) {k : Nat} (h : Oc.szB k = true) : Oc.nums (Oc.putS n k) = Oc.digs n k := by
  rw [Oc.putS_yes h]
  exact Oc.nums_strOfNums _ (Oc.digs_bd k n)
theorem nums_put1 (n : Int) : Oc.nums (Oc.putS n 1) = Oc.digs n 1 := nums_put n (k := 1) (by decide)
theorem nums_put2 (n : Int) : Oc.nums (Oc.putS n 2) = Oc.digs n 2 := nums_put n (k := 2) (by decide)
theorem nums_put4 (n : Int) : Oc.nums (Oc.putS n 4) = Oc.digs n 4 := nums_put n (k := 4) (by decide)
/-- A branch's bytes as numbers. -/
def gB (x : BrD) : List Int := Oc.digs x.tag 2 ++ (Oc.digs x.del 2 ++ Oc.digs x.hgt 4)
theorem gB_length (x : BrD) : (gB x).length = 8 := by simp [gB, Oc.digs_length]
theorem nums_br (x : BrD) : Oc.nums (brS x) = gB x := by
  unfold brS gB
  rw [nums_app, nums_app, nums_put2, nums_put2, nums_put4, List.append_assoc]
theorem nums_cat (xs : List BrD) : Oc.nums (catL brS xs) = xs.flatMap gB := by
  induction xs with
  | nil => rfl
  | cons x r ih => simp only [catL, nums_app, nums_br, ih, List.flatMap_cons]
theorem nums_scr (xs : List BrD) : Oc.nums (scr xs) = Oc.digs (xs.length : Int) 1 ++ xs.flatMap gB := by
  unfold scr
  rw [nums_app, nums_put1, nums_cat]
theorem scr_size (xs : List BrD) : (scr xs).size = 1 + xs.length * 8 := by
  unfold scr
  rw [ByteArray.size_append, put_sz1, cat_size]
  omega
theorem drop_more {a b : List Int} {k : Nat} (h : a.length = k) (n : Nat) : (a ++ b).drop (k + n) = b.drop n := by
  subst h
  rw [← List.drop_drop, List.drop_left]
theorem drop_flat (xs : List BrD) : ∀ (i : Nat) (x : BrD), xs[i]? = some x → ∃ l, (xs.flatMap gB).drop (i * 8) = gB x ++ l := by
  induction xs with
  | nil => intro i x h; simp at h
  | cons y r ih =>
    intro i x h
    cases i with
    | zero =>
      simp at h
      subst h
      exact ⟨r.flatMap gB, by simp [List.flatMap_cons]⟩
    | succ i =>
      have h' : r[i]? = some x := by simpa using h
      obtain ⟨l, hl⟩ := ih i x h'
      refine ⟨l, ?_⟩
      rw [List.flatMap_cons, show (i + 1) * 8 = 8 + i * 8 from by omega, drop_more (gB_length y)]
      exact hl
theorem get_of {s : ByteArray} {a k : Nat} {d l : List Int} (hk : Oc.szB k = true) (hd : d.length = k) (h : (Oc.nums s).drop a = d ++ l) : Oc.getN s (a : Int) k = Oc.num d := by
  have hs : a + k ≤ s.size := by
    have h1 := congrArg List.length h
    rw [List.length_drop, List.length_append, Oc.nums_length, hd] at h1
    have h8 : 1 ≤ k := by have := (Oc.szB_iff (k : Int)).1 hk; omega
    omega
  rw [Oc.getN_yes hk hs]
  unfold Oc.part
  rw [h, List.take_append_of_le_length (by omega), List.take_of_length_le (by omega)]
theorem num2 {n : Int} (h : 0 ≤ n ∧ n ≤ 65535) : Oc.num (Oc.digs n 2) = n := by rw [Oc.num_digs]; show n % 65536 = n; omega
theorem num4 {n : Int} (h : 0 ≤ n ∧ n ≤ 4294967295) : Oc.num (Oc.digs n 4) = n := by rw [Oc.num_digs]; show n % 4294967296 = n; omega
theorem br_of {s : ByteArray} {a : Nat} {x : BrD} {l : List Int} (hx : x.Ok) (h : (Oc.nums s).drop a = gB x ++ l) : brG s a = x := by
  obtain ⟨o1, o2, o3, o4, o5, o6⟩ := hx
  unfold gB at h
  rw [List.append_assoc, List.append_assoc] at h
  have h2 : (Oc.nums s).drop (a + 2) = Oc.digs x.del 2 ++ (Oc.digs x.hgt 4 ++ l) := by
    rw [← List.drop_drop, h]
    exact List.drop_left' (Oc.digs_length 2 _)
  have h4 : (Oc.nums s).drop (a + 4) = Oc.digs x.hgt 4 ++ l := by
    rw [show a + 4 = (a + 2) + 2 from by omega, ← List.drop_drop, h2]
    exact List.drop_left' (Oc.digs_length 2 _)
  have g1 := get_of (k := 2) (by decide) (Oc.digs_length 2 _) h
  have g2 := get_of (k := 2) (by decide) (Oc.digs_length 2 _) h2
  have g4 := get_of (k := 4) (by decide) (Oc.digs_length 4 _) h4
  rw [num2 ⟨o1, o2⟩] at g1
  rw [num2 ⟨o3, o4⟩] at g2
  rw [num4 ⟨o5, o6⟩] at g4
  obtain ⟨t, d, hh⟩ := x
  unfold brG
  have g1' : Oc.getN s (a : Int) 2 = t := g1
  have g2' : Oc.getN s ((a + 2 : Nat) : Int) 2 = d := g2
  have g4' : Oc.getN s ((a + 4 : Nat) : Int) 4 = hh := g4
  rw [g1', g2', g4']
theorem ptE_parts {xs : List BrD} (h : ptE xs = 0) : 1 ≤ xs.length ∧ xs.length ≤ 3 ∧ xs.any highB = false := by
  unfold ptE at h
  split at h
  · omega
  · rename_i h1
    split at h
    · omega
    · rename_i h2
      exact ⟨by omega, by omega, by simpa using h2⟩
/-- What is put is got again. -/
theorem get_put {xs : List BrD} (h : ptE xs = 0) (hok : ∀ x ∈ xs, x.Ok) : gtE (ptS xs) = 0 ∧ gtR (ptS xs) = xs := by
  obtain ⟨h1, h3, hh⟩ := ptE_parts h
  have e : ptS xs = scr xs := by unfold ptS; rw [if_pos h]
  rw [e]
  have hn : gtN (scr xs) = xs.length := by
    have g := get_of (s := scr xs) (a := 0) (k := 1) (d := Oc.digs (xs.length : Int) 1) (l := xs.flatMap gB) (by decide) (Oc.digs_length 1 _) (by rw [List.drop_zero, nums_scr])
    rw [Oc.num_digs] at g
    have g' : Oc.getN (scr xs) 0 1 = (xs.length : Int) % 256 ^ 1 := g
    unfold gtN
    rw [g']
    omega
  have hl : gtL (scr xs) = xs := by
    refine List.ext_getElem? fun i => ?_
    by_cases hi : i < xs.length
    · obtain ⟨x, hx⟩ : ∃ x, xs[i]? = some x := ⟨_, List.getElem?_eq_getElem hi⟩
      obtain ⟨l, hd⟩ := drop_flat xs i x hx
      rw [gtL_at (by omega), hx]
      congr 1
      refine br_of (hok x (List.mem_of_getElem? hx)) (l := l) ?_
      rw [nums_scr, drop_more (Oc.digs_length 1 _)]
      exact hd
    · rw [List.getElem?_eq_none (by rw [gtL_length, hn]; omega), List.getElem?_eq_none (by omega)]
  have hs : shB (scr xs) = true := by
    unfold shB
    rw [hn, scr_size]
    simpa using ⟨h1, h3⟩
  have g := gt_yes hs (by rw [hl]; exact hh)
  exact ⟨g.1, by rw [g.2, hl]⟩

theorem gtE_parts {s : ByteArray} (h : gtE s = 0) : 1 ≤ gtN s ∧ gtN s ≤ 3 ∧ s.size = 1 + gtN s * 8 ∧ (gtL s).any highB = false ∧ gtR s = gtL s := by
  unfold gtE at h
  split at h
  · rename_i h1
    split at h
    · omega
    · rename_i h2
      have h1' := h1
      unfold shB at h1'
      simp only [decide_eq_true_eq] at h1'
      have h2' : (gtL s).any highB = false := by simpa using h2
      exact ⟨h1'.1, h1'.2.1, h1'.2.2, h2', (gt_yes h1 h2').2⟩
  · omega
theorem num_at {s : ByteArray} {a k : Nat} (hk : Oc.szB k = true) (h : a + k ≤ s.size) : Oc.digs (Oc.getN s (a : Int) k) k = ((Oc.nums s).drop a).take k := by
  rw [Oc.getN_yes hk h]
  have e := Oc.digs_num (Oc.part s a k) (Oc.part_bd s a k)
  rw [Oc.part_length s a k h] at e
  exact e
theorem gB_at {s : ByteArray} {a : Nat} (h : a + 8 ≤ s.size) : gB (brG s a) = ((Oc.nums s).drop a).take 8 := by
  have e1 := num_at (s := s) (a := a) (k := 2) (by decide) (by omega)
  have e2 := num_at (s := s) (a := a + 2) (k := 2) (by decide) (by omega)
  have e4 := num_at (s := s) (a := a + 4) (k := 4) (by decide) (by omega)
  have e1' : Oc.digs (brG s a).tag 2 = ((Oc.nums s).drop a).take 2 := e1
  have e2' : Oc.digs (brG s a).del 2 = ((Oc.nums s).drop (a + 2)).take 2 := e2
  have e4' : Oc.digs (brG s a).hgt 4 = ((Oc.nums s).drop (a + 4)).take 4 := e4
  unfold gB
  have d2 : (Oc.nums s).drop (a + 2) = ((Oc.nums s).drop a).drop 2 := by rw [List.drop_drop]
  have d4 : (Oc.nums s).drop (a + 4) = (((Oc.nums s).drop a).drop 2).drop 2 := by rw [List.drop_drop, List.drop_drop]
  rw [e1', e2', e4', d4, d2]
  generalize (Oc.nums s).drop a = L
  rw [show (8 : Nat) = 2 + (2 + 4) from rfl, List.take_add, List.take_add]
theorem flat_range (L : List Int) : ∀ n, (List.range n).flatMap (fun i => (L.drop (i * 8)).take 8) = L.take (n * 8) := by
  intro n
  induction n with
  | zero => simp
  | succ n ih =>
    rw [List.range_succ, List.flatMap_append, ih, show (n + 1) * 8 = n * 8 + 8 from by omega, List.take_add]
    simp
/-- What is got is put as it was. -/
theorem put_get {s : ByteArray} (h : gtE s = 0) : ptE (gtR s) = 0 ∧ ptS (gtR s) = s := by
  obtain ⟨h1, h3, hs, hh, hR⟩ := gtE_parts h
  rw [hR]
  have g := ptE_ok (xs := gtL s) (by rw [gtL_length]; omega) hh
  refine ⟨g.1, ?_⟩
  rw [g.2]
  apply nums_inj
  rw [nums_scr, gtL_length]
  have e0 : Oc.digs (gtN s : Int) 1 = (Oc.nums s).take 1 := by
    have e := num_at (s := s) (a := 0) (k := 1) (by decide) (by omega)
    have e' : Oc.digs (Oc.getN s 0 1) 1 = (Oc.nums s).take 1 := by simpa using e
    have b := getN_bd1 s 0
    rw [← e']
    congr 1
    unfold gtN
    omega
  have e1 : (gtL s).flatMap gB = (Oc.nums s).drop 1 := by
    unfold gtL
    rw [List.flatMap_map]
    have e : (List.range (gtN s)).flatMap (fun i => gB (brG s (1 + i * 8))) = (List.range (gtN s)).flatMap (fun i => (((Oc.nums s).drop 1).drop (i * 8)).take 8) := by
      rw [List.flatMap_def, List.flatMap_def]
      congr 1
      refine List.map_congr_left fun i hi => ?_
      have hi' : i < gtN s := List.mem_range.1 hi
      rw [gB_at (by omega), List.drop_drop]
    rw [e, flat_range, List.take_of_length_le]
    rw [List.length_drop, Oc.nums_length]
    omega
  rw [e0, e1, List.take_append_drop]
/-- Unlike branches have unlike scripts. -/
theorem put_eq {xs ys : List BrD} (hx : ptE xs = 0) (hy : ptE ys = 0) (ox : ∀ x ∈ xs, x.Ok) (oy : ∀ x ∈ ys, x.Ok) (h : ptS xs = ptS ys) : xs = ys := by
  rw [← (get_put hx ox).2, ← (get_put hy oy).2, h]

end Go.Proofs.Ytdldhfhhhjenkaa
