/-
  Texts padded: the document's.
-/
import Derived.Test.YtfobdefncbaooaaDoorHarr
import Derived.Test.YtfobdefncbaooaaDoorHpmath
import Derived.Test.YtfobdefncbaooaaDoorRows
import Derived.WalkKit
import Derived.WalkSpells
import Derived.WalkLawsBesides
import Derived.OwnWalk
import Derived.Lib.Hide
namespace Go.Proofs.YtfobdefncbaooaaDoor.Sh
open Go.RowKit

theorem info5 : (Tryd.prog.info? 5).map (fun i => (i.zero, i.size, i.bytes)) = some (some (.int .u8 0), 1, 1) := by kernel_rfl

/-- The value v is a row of bytes of the call's own. -/
def Own (w : World) (base : Nat) (v : Value) (l : List Int) : Prop := w.ownsRow base 5 1 v l.length (l.map (Value.int .u8))
theorem Own.nil (w : World) (base : Nat) : Own w base (.slice none 0 0) [] := World.ownsRow_nil w base 5 1
theorem Own.push {w : World} {base : Nat} {v : Value} {l : List Int} {x : Int} (h : w.ownsRow base 5 1 v (l.length + 1) (l.map (Value.int .u8) ++ [.int .u8 x])) : Own w base v (l ++ [x]) := by
  unfold Own
  simpa using h
theorem Own.row {w : World} {base : Nat} {v : Value} {l : List Int} (h : Own w base v l) : ∀ k, v.ownBlock = some k → base ≤ k := by
  intro k hk
  rcases h.2 with ⟨rfl, _⟩ | ⟨g, cap, cur, rfl, hb, _⟩
  · simp [Value.ownBlock] at hk
  · simp [Value.ownBlock] at hk; omega
theorem Own.open {w : World} {base : Nat} {v : Value} {l : List Int} (h : Own w base v l) (hl : l ≠ []) :
    ∃ g cap, v = .slice (some ⟨g, 0, none⟩) l.length cap ∧ l.length ≤ cap ∧ base ≤ g ∧ g < w.heap.size ∧ ∀ j, j < l.length → w.cell? ⟨g, j, none⟩ = some (.int .u8 (l.getD j 0)) := by
  rcases h.2 with ⟨rfl, h0⟩ | ⟨g, cap, cur, rfl, hb, hg, hn, _, _, ht⟩
  · exact absurd (List.eq_nil_of_length_eq_zero h0) hl
  · refine ⟨g, cap, rfl, hn, hb, ?_, fun k hk => ?_⟩
    · rcases Nat.lt_or_ge g w.heap.size with hlt | hge
      · exact hlt
      · rw [Array.getElem?_eq_none hge] at hg; cases hg
    · have h1 := World.ownsRow.cellAt h k (by omega)
      rw [h1]
      simp [List.getD_eq_getElem?_getD, hk]
theorem one_new (w : World) (v : Value) (t : TypeId) : ∀ j u, [v][j]? = some u → (w.alloc (.cells #[v] t)).cell? ((⟨w.heap.size, 0, none⟩ : Addr).add j) = some u := by
  intro j u hj
  match j, hj with
  | 0, hj => simp at hj; subst hj; simp [Addr.add]

/-- A row that grows, and a counter, as a loop's head has them. -/
def Grow1 (w : World) (s : ByteArray) (v i : Value) (wr : World) : Prop := ∃ k : Nat, k ≤ s.size ∧ i = .int .i64 k ∧ Own wr w.heap.size v ((nums s).take k) ∧ Below w.heap.size w wr
def Grow2 (w : World) (s : ByteArray) (v : Value) (wr : World) : Prop := ∃ j : Nat, j ≤ zs s.size ∧ Own wr w.heap.size v (nums s ++ [128] ++ List.replicate j 0) ∧ Below w.heap.size w wr
def Grow3 (w : World) (b : List Int) (n : Int) (v i : Value) (wr : World) : Prop := ∃ k : Nat, k ≤ 8 ∧ i = .int .i64 (7 - (k : Int)) ∧ Own wr w.heap.size v (b ++ tail8 n k) ∧ Below w.heap.size w wr

theorem index_num (s : ByteArray) (k : Nat) (h : k < s.size) (w : World) :
    (Instr.index 9 (.string s) (.int .i64 (k : Int))).run Tryd.prog w = .ok (.int .u8 ((nums s).getD k 0)) w := by
  rw [run_index_string w 9 s .i64 k Tryd.underlying9, nums_at s k h]
  simp [h]

/-- A slice's length. -/
def lenOf : Value → Nat
  | .slice _ n _ => n
  | _ => 0

theorem lenOf_own {w : World} {base : Nat} {v : Value} {l : List Int} (h : Own w base v l) (hl : l ≠ []) : lenOf v = l.length := by
  obtain ⟨g, cap, rfl, _⟩ := h.open hl
  rfl

/-- What pad answers. -/
def PadEnd (l : List Int) (w : World) (e : Ending) (w' : World) : Prop :=
  ∃ v, e = .returned v ∧ Own w' w.heap.size v (padL l) ∧ Below w.heap.size w w'

set_option maxHeartbeats 1000000 in
theorem pad_any (s : ByteArray) (w : World) (hs : s.size ≤ 140737488351232) : Calls Tryd.prog 62 #[.string s] w (PadEnd (nums s) w) := by
  obtain ⟨i0, hi0, hz0, hz1, hz2⟩ := info_parts info5
  go_enter Tryd.func62, Tryd.ntmps62
  go_wp2_with fail
  go_loopw [3, 4] (fun v i wr => Grow1 w s v i wr) (fun _ i _ => s.size - (intOf i).toNat)
  case atStart => exact ⟨0, by omega, rfl, Own.nil _ _, Below.refl _ _⟩
  case round =>
    obtain ⟨k, hk, rfl, hown, hB⟩ := hrel
    have hlen : ((nums s).take k).length = k := by simp [nums_length]; omega
    by_cases hlt : k < s.size
    · have hx := index_num s k hlt
      have hmore := take_more (nums s) k (by rw [nums_length]; exact hlt)
      generalize (nums s).getD k 0 = x at hx hmore
      have hkb : decide (k < s.size) = true := by simp; omega
      have HM := Lib.hid hmore
      have HL := Lib.hid hlen
      have HOWN := Lib.hid hown
      have HB := Lib.hid hB
      have hsz := hB.size
      clear hmore hlen hown hB
      go_wp2_with (first
        | (at_builtin; refine wpList_append_own _ rfl _ _ 73 rfl w.heap.size 5 i0 (.int .u8 0) 1 1 Tryd.underlying73 hi0 hz0 hz1 hz2 rfl (by decide) _ _ _ rfl (HOWN.out.alloc _) ⟨wr.heap.size, 0, none⟩ 1 1 [.int .u8 x] rfl rfl (one_new _ _ _) (by simp [Value.oneCell']) (by rw [HL.out]; unfold maxLen; omega) (by rw [HL.out]; omega) (by simp; omega) ?_; intro v' w1 hown' hgrow _))
      go_roundw
      case rel => exact ⟨k + 1, by omega, by go_num, by rw [HM.out]; exact Own.push hown', (HB.out.alloc hsz _).grown hgrow (by simp; omega) HOWN.out.row⟩
      case measure => simp [intOf]; omega
    · have hks : k = s.size := by omega
      rw [hks, List.take_of_length_le (by rw [nums_length]; exact Nat.le_refl _)] at hown
      rw [hks, List.take_of_length_le (by rw [nums_length]; exact Nat.le_refl _)] at hlen
      obtain ⟨k1, rfl⟩ : ∃ k1, k1 = k := ⟨_, rfl⟩
      obtain ⟨w2, rfl⟩ : ∃ w2, w2 = wr := ⟨_, rfl⟩
      have hkb : decide (k1 < s.size) = false := by simp; omega
      have HL := Lib.hid hlen
      have HOWN := Lib.hid hown
      have HB := Lib.hid hB
      have hsz := hB.size
      clear hlen hown hB hlt hk hks
      go_wp2_with (first
        | (at_builtin; refine wpList_append_own _ rfl _ _ 73 rfl w.heap.size 5 i0 (.int .u8 0) 1 1 Tryd.underlying73 hi0 hz0 hz1 hz2 rfl (by decide) _ _ _ rfl (HOWN.out.alloc _) ⟨w2.heap.size, 0, none⟩ 1 1 [.int .u8 128] rfl rfl (one_new _ _ _) (by simp [Value.oneCell']) (by rw [HL.out]; unfold maxLen; omega) (by rw [HL.out]; omega) (by simp; omega) ?_; intro v' w1 hown' hgrow _))
      have A2 : Grow2 w s v' w1 := ⟨0, by omega, by simpa using Own.push hown', (HB.out.alloc hsz _).grown hgrow (by simp; omega) HOWN.out.row⟩
      have HA2 := Lib.hid A2
      clear A2 hown' hgrow HOWN HB hsz HL
      go_loopw [3] (fun v wr => Grow2 w s v wr) (fun v _ => s.size + 65 - lenOf v)
      case atStart => exact HA2.out
      case round =>
        obtain ⟨j, hj, hown, hB⟩ := hrel
        have hlen : (nums s ++ [128] ++ List.replicate j 0).length = s.size + 1 + j := by simp [nums_length]; omega
        obtain ⟨g, cap, rfl, _, _, _, _⟩ := hown.open (by simp)
        rw [hlen]
        have HL := Lib.hid hlen
        have HOWN := Lib.hid hown
        have HB := Lib.hid hB
        have hsz := hB.size
        obtain ⟨n, hn⟩ : ∃ n, s.size + 1 + j = n := ⟨_, rfl⟩
        rw [hn]
        rw [hlen, hn] at HOWN
        clear hlen hown hB
        have hz64 : zs s.size ≤ 63 := by unfold zs; omega
        by_cases hlt : j < zs s.size
        · have h56 := zs_less _ _ hlt
          have hd : ((n : Int) % 64 != 56) = true := by simp; omega
          clear h56
          go_wp2_with (first
            | (at_builtin; refine wpList_append_own _ rfl _ _ 73 rfl w.heap.size 5 i0 (.int .u8 0) 1 1 Tryd.underlying73 hi0 hz0 hz1 hz2 rfl (by decide) _ _ _ rfl (HOWN.out.alloc _) ⟨wr.heap.size, 0, none⟩ 1 1 [.int .u8 0] rfl rfl (one_new _ _ _) (by simp [Value.oneCell']) (by rw [HL.out]; unfold maxLen; omega) (by rw [HL.out]; omega) (by simp; omega) ?_; intro v' w1 hown' hgrow _))
          go_roundw
          case rel =>
            refine ⟨j + 1, by omega, ?_, (HB.out.alloc hsz _).grown hgrow (by simp; omega) HOWN.out.row⟩
            rw [List.replicate_succ', ← List.append_assoc]
            exact Own.push hown'
          case measure =>
            have hl2 := lenOf_own (Own.push hown') (by simp)
            simp [lenOf] at hl2 ⊢
            rw [hl2, nums_length]
            omega
        · have hjz : j = zs s.size := by omega
          have h56 := zs_end s.size
          have hd : ((n : Int) % 64 != 56) = false := by simp; omega
          have hbl : (nums s ++ [128] ++ List.replicate (zs s.size) 0).length = n := by rw [← hn, ← hjz]; exact HL.out
          rw [hjz] at HOWN
          obtain ⟨w3, rfl⟩ : ∃ w3, w3 = wr := ⟨_, rfl⟩
          have HBL := Lib.hid hbl
          generalize hbb : nums s ++ [128] ++ List.replicate (zs s.size) 0 = bb at HOWN HBL
          have HBB := Lib.hid hbb
          have hn2 : n ≤ 140737488351400 := by omega
          clear h56 hbl hbb hjz hlt hj HL hz64 hn
          go_wp2_with fail
          go_loopw [3, 6] (fun v i wr => Grow3 w bb ((s.size : Int) * 8) v i wr) (fun _ i _ => (intOf i + 1).toNat)
          case atStart => exact ⟨0, by omega, rfl, by simpa [tail8] using HOWN.out, HB.out⟩
          case round =>
            obtain ⟨k, hk, rfl, hown, hB⟩ := hrel
            have hlen : (bb ++ tail8 ((s.size : Int) * 8) k).length = n + k := by rw [List.length_append, tail8_length, HBL.out]
            have HL := Lib.hid hlen
            have HOWN := Lib.hid hown
            have HB := Lib.hid hB
            have hsz := hB.size
            clear hlen hown hB
            by_cases hlt : k < 8
            · obtain ⟨m, hm⟩ : ∃ m : Nat, 7 - k = m := ⟨_, rfl⟩
              have em : (7 : Int) - (k : Int) = (m : Int) := by omega
              have hmore : tail8 ((s.size : Int) * 8) (k + 1) = tail8 ((s.size : Int) * 8) k ++ [(s.size : Int) * 8 / 2 ^ (8 * m) % 256] := by rw [← hm]; rfl
              have HM := Lib.hid hmore
              rw [em]
              have m7 : m ≤ 7 := by omega
              have e8 : (8 * (m : Int)).toNat = 8 * m := by omega
              have em1 : (7 : Int) - ((k + 1 : Nat) : Int) = (m : Int) - 1 := by omega
              have EM1 := Lib.hid em1
              clear hmore em hm em1
              go_wp2_with (first
                | (at_builtin; refine wpList_append_own _ rfl _ _ 73 rfl w.heap.size 5 i0 (.int .u8 0) 1 1 Tryd.underlying73 hi0 hz0 hz1 hz2 rfl (by decide) _ _ _ rfl (HOWN.out.alloc _) ⟨wr.heap.size, 0, none⟩ 1 1 [.int .u8 ((s.size : Int) * 8 / 2 ^ (8 * m) % 256)] rfl rfl (one_new _ _ _) (by simp [Value.oneCell']) (by rw [HL.out]; unfold maxLen; omega) (by rw [HL.out]; omega) (by simp; omega) ?_; intro v' w1 hown' hgrow _))
              go_roundw
              case rel => exact ⟨k + 1, by omega, by rw [EM1.out], by rw [HM.out, ← List.append_assoc]; exact Own.push hown', (HB.out.alloc hsz _).grown hgrow (by simp; omega) HOWN.out.row⟩
              case measure => simp [intOf]
            · have hk8 : k = 8 := by omega
              subst hk8
              go_wp2_with fail
              go_ret
              refine ⟨_, rfl, ?_, HB.out⟩
              have := HOWN.out
              rw [← HBB.out] at this
              unfold padL
              rw [nums_length]
              exact this
end Go.Proofs.YtfobdefncbaooaaDoor.Sh
