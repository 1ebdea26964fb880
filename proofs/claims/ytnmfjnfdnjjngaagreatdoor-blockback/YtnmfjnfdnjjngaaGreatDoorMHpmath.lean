/-
  Texts padded: plain mathematics.
  Texts padded: the document's.
  The digest of a text: plain mathematics.
  Digests: the program's small calls: a word turned, a word of a text.
  Digests: the program's word of a text.
-/
import Derived.Laws.BytesArg
import Derived.WalkKit
import Derived.Test.YtnmfjnfdnjjngaaGreatDoorMHarr
import Derived.Test.YtnmfjnfdnjjngaaGreatDoorRows
import Derived.WalkSpells
import Derived.WalkLawsBesides
import Derived.OwnWalk
import Derived.Lib.Hide
import Derived.Lib.EndianBits

namespace Go.Proofs.YtnmfjnfdnjjngaaGreatDoor.Sh

/-- A text's bytes as numbers. -/
def nums (s : ByteArray) : List Int := s.data.toList.map fun b => (b.toNat : Int)
theorem nums_length (s : ByteArray) : (nums s).length = s.size := by show _ = s.data.size; simp [nums]
theorem nums_bd (s : ByteArray) : ∀ b ∈ nums s, 0 ≤ b ∧ b < 256 := by
  intro b h
  simp only [nums, List.mem_map] at h
  obtain ⟨c, _, rfl⟩ := h
  have := c.toNat_lt
  omega
theorem nums_at (s : ByteArray) (k : Nat) (h : k < s.size) : (nums s).getD k 0 = (s[k].toNat : Int) := by
  have h2 : k < s.data.size := h
  simp [nums, List.getD_eq_getElem?_getD]
  rw [Array.getElem?_eq_getElem h2]
  rfl
theorem take_more (l : List Int) (k : Nat) (h : k < l.length) : l.take (k + 1) = l.take k ++ [l.getD k 0] := by
  rw [List.take_succ_eq_append_getElem h]
  simp [List.getD_eq_getElem?_getD, h]

/-- How many noughts are wanted behind so many bytes and one. -/
def zs (n : Nat) : Nat := (119 - n % 64) % 64
theorem zs_end (n : Nat) : (n + 1 + zs n) % 64 = 56 := by unfold zs; omega
theorem zs_less (n j : Nat) (h : j < zs n) : (n + 1 + j) % 64 ≠ 56 := by unfold zs at h; omega

/-- The last k of the eight bytes of a number, the highest first: as far as they are put when k are still to come. -/
def tail8 (n : Int) : Nat → List Int
  | 0 => []
  | k + 1 => tail8 n k ++ [n / 2 ^ (8 * (7 - k)) % 256]
theorem tail8_length (n : Int) : ∀ k, (tail8 n k).length = k
  | 0 => rfl
  | k + 1 => by simp [tail8, tail8_length n k]
theorem tail8_bd (n : Int) : ∀ k, ∀ b ∈ tail8 n k, 0 ≤ b ∧ b < 256
  | 0 => by simp [tail8]
  | k + 1 => by
    intro b h
    rcases List.mem_append.1 h with h | h
    · exact tail8_bd n k b h
    · simp at h; omega

/-- A text padded. -/
def padL (l : List Int) : List Int := l ++ [128] ++ List.replicate (zs l.length) 0 ++ tail8 ((l.length : Int) * 8) 8
theorem padL_length (l : List Int) : (padL l).length = l.length + 9 + zs l.length := by simp [padL, tail8_length]; omega
theorem padL_64 (l : List Int) : (padL l).length % 64 = 0 := by
  have := zs_end l.length
  rw [padL_length]
  omega
theorem padL_bd (l : List Int) (h : ∀ b ∈ l, 0 ≤ b ∧ b < 256) : ∀ b ∈ padL l, 0 ≤ b ∧ b < 256 := by
  intro b hb
  simp only [padL, List.mem_append, List.mem_singleton, List.mem_replicate] at hb
  rcases hb with ((hb | hb) | hb) | hb
  · exact h b hb
  · omega
  · omega
  · exact tail8_bd _ _ b hb
end Go.Proofs.YtnmfjnfdnjjngaaGreatDoor.Sh

namespace Go.Proofs.YtnmfjnfdnjjngaaGreatDoor.Sh
open Go.RowKit
set_option maxRecDepth 100000

theorem info5 : (Tryz.prog.info? 5).map (fun i => (i.zero, i.size, i.bytes)) = some (some (.int .u8 0), 1, 1) := by kernel_rfl

/-- The value v is a row of bytes of the call's own. -/
def Own (w : World) (base : Nat) (v : Value) (l : List Int) : Prop := w.ownsRow base 5 1 v l.length (l.map (Value.int .u8))
theorem Own.nil (w : World) (base : Nat) : Own w base (.slice none 0 0) [] := World.ownsRow_nil w base 5 1
theorem Own.push {w : World} {base : Nat} {v : Value} {l : List Int} {x : Int} (h : w.ownsRow base 5 1 v (l.length + 1) (l.map (Value.int .u8) ++ [.int .u8 x])) : Own w base v (l ++ [x]) := by
  unfold Own
  simpa using h
theorem Own.row {w : World} {base : Nat} {v : Value} {l : List Int} (h : Own w base v l) : ∀ k, v.ownBlock = some k → base ≤ k := by
  intro k hk
  rcases h.2 with ⟨rfl, _⟩ | ⟨g, cap, cur, rfl, hb, _⟩
  · simp [Value.ownBlock] at hk
  · simp [Value.ownBlock] at hk; omega
theorem Own.open {w : World} {base : Nat} {v : Value} {l : List Int} (h : Own w base v l) (hl : l ≠ []) :
    ∃ g cap, v = .slice (some ⟨g, 0, none⟩) l.length cap ∧ l.length ≤ cap ∧ base ≤ g ∧ g < w.heap.size ∧ ∀ j, j < l.length → w.cell? ⟨g, j, none⟩ = some (.int .u8 (l.getD j 0)) := by
  rcases h.2 with ⟨rfl, h0⟩ | ⟨g, cap, cur, rfl, hb, hg, hn, _, _, ht⟩
  · exact absurd (List.eq_nil_of_length_eq_zero h0) hl
  · refine ⟨g, cap, rfl, hn, hb, ?_, fun k hk => ?_⟩
    · rcases Nat.lt_or_ge g w.heap.size with hlt | hge
      · exact hlt
      · rw [Array.getElem?_eq_none hge] at hg; cases hg
    · have h1 := World.ownsRow.cellAt h k (by omega)
      rw [h1]
      simp [List.getD_eq_getElem?_getD, hk]
theorem one_new (w : World) (v : Value) (t : TypeId) : ∀ j u, [v][j]? = some u → (w.alloc (.cells #[v] t)).cell? ((⟨w.heap.size, 0, none⟩ : Addr).add j) = some u := by
  intro j u hj
  match j, hj with
  | 0, hj => simp at hj; subst hj; simp [Addr.add]

/-- A row that grows, and a counter, as a loop's head has them. -/
def Grow1 (w : World) (s : ByteArray) (v i : Value) (wr : World) : Prop := ∃ k : Nat, k ≤ s.size ∧ i = .int .i64 k ∧ Own wr w.heap.size v ((nums s).take k) ∧ Below w.heap.size w wr
def Grow2 (w : World) (s : ByteArray) (v : Value) (wr : World) : Prop := ∃ j : Nat, j ≤ zs s.size ∧ Own wr w.heap.size v (nums s ++ [128] ++ List.replicate j 0) ∧ Below w.heap.size w wr
def Grow3 (w : World) (b : List Int) (n : Int) (v i : Value) (wr : World) : Prop := ∃ k : Nat, k ≤ 8 ∧ i = .int .i64 (7 - (k : Int)) ∧ Own wr w.heap.size v (b ++ tail8 n k) ∧ Below w.heap.size w wr

theorem index_num (s : ByteArray) (k : Nat) (h : k < s.size) (w : World) :
    (Instr.index 9 (.string s) (.int .i64 (k : Int))).run Tryz.prog w = .ok (.int .u8 ((nums s).getD k 0)) w := by
  rw [run_index_string w 9 s .i64 k Tryz.underlying9, nums_at s k h]
  simp [h]

/-- A slice's length. -/
def lenOf : Value → Nat
  | .slice _ n _ => n
  | _ => 0

theorem lenOf_own {w : World} {base : Nat} {v : Value} {l : List Int} (h : Own w base v l) (hl : l ≠ []) : lenOf v = l.length := by
  obtain ⟨g, cap, rfl, _⟩ := h.open hl
  rfl

/-- What pad answers. -/
def PadEnd (l : List Int) (w : World) (e : Ending) (w' : World) : Prop :=
  ∃ v, e = .returned v ∧ Own w' w.heap.size v (padL l) ∧ Below w.heap.size w w'

set_option maxHeartbeats 1000000 in
theorem pad_any (s : ByteArray) (w : World) (hs : s.size ≤ 140737488351232) : Calls Tryz.prog 121 #[.string s] w (PadEnd (nums s) w) := by
  obtain ⟨i0, hi0, hz0, hz1, hz2⟩ := info_parts info5
  go_enter Tryz.func121, Tryz.ntmps121
  go_wp2_with fail
  go_loopw [3, 4] (fun v i wr => Grow1 w s v i wr) (fun _ i _ => s.size - (intOf i).toNat)
  case atStart => exact ⟨0, by omega, rfl, Own.nil _ _, Below.refl _ _⟩
  case round =>
    obtain ⟨k, hk, rfl, hown, hB⟩ := hrel
    have hlen : ((nums s).take k).length = k := by simp [nums_length]; omega
    by_cases hlt : k < s.size
    · have hx := index_num s k hlt
      have hmore := take_more (nums s) k (by rw [nums_length]; exact hlt)
      generalize (nums s).getD k 0 = x at hx hmore
      have hkb : decide (k < s.size) = true := by simp; omega
      have HM := Lib.hid hmore
      have HL := Lib.hid hlen
      have HOWN := Lib.hid hown
      have HB := Lib.hid hB
      have hsz := hB.size
      clear hmore hlen hown hB
      go_wp2_with (first
        | (at_builtin; refine wpList_append_own _ rfl _ _ 79 rfl w.heap.size 5 i0 (.int .u8 0) 1 1 Tryz.underlying79 hi0 hz0 hz1 hz2 rfl (by decide) _ _ _ rfl (HOWN.out.alloc _) ⟨wr.heap.size, 0, none⟩ 1 1 [.int .u8 x] rfl rfl (one_new _ _ _) (by simp [Value.oneCell']) (by rw [HL.out]; unfold maxLen; omega) (by rw [HL.out]; omega) (by simp; omega) ?_; intro v' w1 hown' hgrow _))
      go_roundw
      case rel => exact ⟨k + 1, by omega, by go_num, by rw [HM.out]; exact Own.push hown', (HB.out.alloc hsz _).grown hgrow (by simp; omega) HOWN.out.row⟩
      case measure => simp [intOf]; omega
    · have hks : k = s.size := by omega
      rw [hks, List.take_of_length_le (by rw [nums_length]; exact Nat.le_refl _)] at hown
      rw [hks, List.take_of_length_le (by rw [nums_length]; exact Nat.le_refl _)] at hlen
      obtain ⟨k1, rfl⟩ : ∃ k1, k1 = k := ⟨_, rfl⟩
      obtain ⟨w2, rfl⟩ : ∃ w2, w2 = wr := ⟨_, rfl⟩
      have hkb : decide (k1 < s.size) = false := by simp; omega
      have HL := Lib.hid hlen
      have HOWN := Lib.hid hown
      have HB := Lib.hid hB
      have hsz := hB.size
      clear hlen hown hB hlt hk hks
      go_wp2_with (first
        | (at_builtin; refine wpList_append_own _ rfl _ _ 79 rfl w.heap.size 5 i0 (.int .u8 0) 1 1 Tryz.underlying79 hi0 hz0 hz1 hz2 rfl (by decide) _ _ _ rfl (HOWN.out.alloc _) ⟨w2.heap.size, 0, none⟩ 1 1 [.int .u8 128] rfl rfl (one_new _ _ _) (by simp [Value.oneCell']) (by rw [HL.out]; unfold maxLen; omega) (by rw [HL.out]; omega) (by simp; omega) ?_; intro v' w1 hown' hgrow _))
      have A2 : Grow2 w s v' w1 := ⟨0, by omega, by simpa using Own.push hown', (HB.out.alloc hsz _).grown hgrow (by simp; omega) HOWN.out.row⟩
      have HA2 := Lib.hid A2
      clear A2 hown' hgrow HOWN HB hsz HL
      go_loopw [3] (fun v wr => Grow2 w s v wr) (fun v _ => s.size + 65 - lenOf v)
      case atStart => exact HA2.out
      case round =>
        obtain ⟨j, hj, hown, hB⟩ := hrel
        have hlen : (nums s ++ [128] ++ List.replicate j 0).length = s.size + 1 + j := by simp [nums_length]; omega
        obtain ⟨g, cap, rfl, _, _, _, _⟩ := hown.open (by simp)
        rw [hlen]
        have HL := Lib.hid hlen
        have HOWN := Lib.hid hown
        have HB := Lib.hid hB
        have hsz := hB.size
        obtain ⟨n, hn⟩ : ∃ n, s.size + 1 + j = n := ⟨_, rfl⟩
        rw [hn]
        rw [hlen, hn] at HOWN
        clear hlen hown hB
        have hz64 : zs s.size ≤ 63 := by unfold zs; omega
        by_cases hlt : j < zs s.size
        · have h56 := zs_less _ _ hlt
          have hd : ((n : Int) % 64 != 56) = true := by simp; omega
          clear h56
          go_wp2_with (first
            | (at_builtin; refine wpList_append_own _ rfl _ _ 79 rfl w.heap.size 5 i0 (.int .u8 0) 1 1 Tryz.underlying79 hi0 hz0 hz1 hz2 rfl (by decide) _ _ _ rfl (HOWN.out.alloc _) ⟨wr.heap.size, 0, none⟩ 1 1 [.int .u8 0] rfl rfl (one_new _ _ _) (by simp [Value.oneCell']) (by rw [HL.out]; unfold maxLen; omega) (by rw [HL.out]; omega) (by simp; omega) ?_; intro v' w1 hown' hgrow _))
          go_roundw
          case rel =>
            refine ⟨j + 1, by omega, ?_, (HB.out.alloc hsz _).grown hgrow (by simp; omega) HOWN.out.row⟩
            rw [List.replicate_succ', ← List.append_assoc]
            exact Own.push hown'
          case measure =>
            have hl2 := lenOf_own (Own.push hown') (by simp)
            simp [lenOf] at hl2 ⊢
            rw [hl2, nums_length]
            omega
        · have hjz : j = zs s.size := by omega
          have h56 := zs_end s.size
          have hd : ((n : Int) % 64 != 56) = false := by simp; omega
          have hbl : (nums s ++ [128] ++ List.replicate (zs s.size) 0).length = n := by rw [← hn, ← hjz]; exact HL.out
          rw [hjz] at HOWN
          obtain ⟨w3, rfl⟩ : ∃ w3, w3 = wr := ⟨_, rfl⟩
          have HBL := Lib.hid hbl
          generalize hbb : nums s ++ [128] ++ List.replicate (zs s.size) 0 = bb at HOWN HBL
          have HBB := Lib.hid hbb
          have hn2 : n ≤ 140737488351400 := by omega
          clear h56 hbl hbb hjz hlt hj HL hz64 hn
          go_wp2_with fail
          go_loopw [3, 6] (fun v i wr => Grow3 w bb ((s.size : Int) * 8) v i wr) (fun _ i _ => (intOf i + 1).toNat)
          case atStart => exact ⟨0, by omega, rfl, by simpa [tail8] using HOWN.out, HB.out⟩
          case round =>
            obtain ⟨k, hk, rfl, hown, hB⟩ := hrel
            have hlen : (bb ++ tail8 ((s.size : Int) * 8) k).length = n + k := by rw [List.length_append, tail8_length, HBL.out]
            have HL := Lib.hid hlen
            have HOWN := Lib.hid hown
            have HB := Lib.hid hB
            have hsz := hB.size
            clear hlen hown hB
            by_cases hlt : k < 8
            · obtain ⟨m, hm⟩ : ∃ m : Nat, 7 - k = m := ⟨_, rfl⟩
              have em : (7 : Int) - (k : Int) = (m : Int) := by omega
              have hmore : tail8 ((s.size : Int) * 8) (k + 1) = tail8 ((s.size : Int) * 8) k ++ [(s.size : Int) * 8 / 2 ^ (8 * m) % 256] := by rw [← hm]; rfl
              have HM := Lib.hid hmore
              rw [em]
              have m7 : m ≤ 7 := by omega
              have e8 : (8 * (m : Int)).toNat = 8 * m := by omega
              have em1 : (7 : Int) - ((k + 1 : Nat) : Int) = (m : Int) - 1 := by omega
              have EM1 := Lib.hid em1
              clear hmore em hm em1
              go_wp2_with (first
                | (at_builtin; refine wpList_append_own _ rfl _ _ 79 rfl w.heap.size 5 i0 (.int .u8 0) 1 1 Tryz.underlying79 hi0 hz0 hz1 hz2 rfl (by decide) _ _ _ rfl (HOWN.out.alloc _) ⟨wr.heap.size, 0, none⟩ 1 1 [.int .u8 ((s.size : Int) * 8 / 2 ^ (8 * m) % 256)] rfl rfl (one_new _ _ _) (by simp [Value.oneCell']) (by rw [HL.out]; unfold maxLen; omega) (by rw [HL.out]; omega) (by simp; omega) ?_; intro v' w1 hown' hgrow _))
              go_roundw
              case rel => exact ⟨k + 1, by omega, by rw [EM1.out], by rw [HM.out, ← List.append_assoc]; exact Own.push hown', (HB.out.alloc hsz _).grown hgrow (by simp; omega) HOWN.out.row⟩
              case measure => simp [intOf]
            · have hk8 : k = 8 := by omega
              subst hk8
              go_wp2_with fail
              go_ret
              refine ⟨_, rfl, ?_, HB.out⟩
              have := HOWN.out
              rw [← HBB.out] at this
              unfold padL
              rw [nums_length]
              exact this
end Go.Proofs.YtnmfjnfdnjjngaaGreatDoor.Sh

namespace Go.Proofs.YtnmfjnfdnjjngaaGreatDoor.Sh

/-- The words that a digest begins with. -/
def start : List Int := [1779033703, 3144134277, 1013904242, 2773480762, 1359893119, 2600822924, 528734635, 1541459225]
/-- The words behind j blocks. -/
def hsh (p : List Int) : Nat → List Int
  | 0 => start
  | j + 1 => blk (hsh p j) ((p.drop (64 * j)).take 64)
theorem hsh_length (p : List Int) : ∀ j, (hsh p j).length = 8
  | 0 => rfl
  | j + 1 => blk_length _ _ (hsh_length p j)
/-- A word's bytes, the highest first. -/
def be4 (x : Int) : List Int := [x / 16777216 % 256, x / 65536 % 256, x / 256 % 256, x % 256]
/-- The bytes of words. -/
def wbytes (l : List Int) : List Int := l.flatMap be4
theorem wbytes_more (l : List Int) (k : Nat) (h : k < l.length) : wbytes (l.take (k + 1)) = wbytes (l.take k) ++ be4 (l.getD k 0) := by
  rw [take_more l k h]
  simp [wbytes]
theorem wbytes_length (l : List Int) : (wbytes l).length = 4 * l.length := by
  induction l with
  | nil => rfl
  | cons a l ih =>
    have e : wbytes (a :: l) = be4 a ++ wbytes l := by simp [wbytes]
    rw [e, List.length_append, ih, List.length_cons]
    simp [be4]
    omega
theorem wbytes_bd (l : List Int) : ∀ b ∈ wbytes l, 0 ≤ b ∧ b < 256 := by
  intro b h
  simp only [wbytes, List.mem_flatMap, be4] at h
  obtain ⟨x, _, h⟩ := h
  simp only [List.mem_cons, List.not_mem_nil, or_false] at h
  rcases h with rfl | rfl | rfl | rfl <;> omega
/-- The digest. -/
def digest (s : ByteArray) : ByteArray := strOfNums (wbytes (hsh (padL (nums s)) ((padL (nums s)).length / 64)))
theorem digest_size (s : ByteArray) : (digest s).size = 32 := by
  unfold digest
  rw [strOfNums_size, wbytes_length, hsh_length]
theorem str_append (l r : List Int) : strOfNums (l ++ r) = strOfNums l ++ strOfNums r := by
  refine ByteArray.ext ?_
  rw [ByteArray.data_append]
  simp [strOfNums]

set_option maxRecDepth 100000 in
theorem digest_abc : digest ⟨#[97, 98, 99]⟩ = ⟨#[0xba, 0x78, 0x16, 0xbf, 0x8f, 0x01, 0xcf, 0xea, 0x41, 0x41, 0x40, 0xde, 0x5d, 0xae, 0x22, 0x23, 0xb0, 0x03, 0x61, 0xa3, 0x96, 0x17, 0x7a, 0x9c, 0xb4, 0x10, 0xff, 0x61, 0xf2, 0x00, 0x15, 0xad]⟩ := by
  decide +kernel
end Go.Proofs.YtnmfjnfdnjjngaaGreatDoor.Sh

namespace Go.Proofs.YtnmfjnfdnjjngaaGreatDoor.Sh
open Go.RowKit
set_option maxRecDepth 100000

theorem or_comm32 (x y : Int) : bits BinOp.or IntKind.u32 x y = bits BinOp.or IntKind.u32 y x := by
  simp [bits, BitVec.or_comm]

theorem turn_by (n : Nat) (h0 : 0 < n) (hn : n < 32) : bits BinOp.and IntKind.u64 (IntKind.u64.wrap (-(n : Int))) 31 = ((32 - n : Nat) : Int) := by
  have h : IntKind.u64.wrap (-(n : Int)) = 18446744073709551616 - (n : Int) := by rw [IntKind.wrap_u64]; omega
  rw [h]
  refine (bits_mask .u64 64 (by decide) wraps_u64 5 (by decide) _ (by omega) (by omega)).trans ?_
  omega

theorem rot_any (x : Int) (n : Nat) (w : World) (h0 : 0 < n) (hn : n < 32) :
    Calls Tryz.prog 175 #[.int .u32 x, .int .i64 (-(n : Int))] w fun e w' => e = .returned (.int .u32 (rotr x n)) ∧ w = w' := by
  have hb := turn_by n h0 hn
  obtain ⟨m, hm⟩ : ∃ m : Nat, 32 - n = m := ⟨_, rfl⟩
  have hm2 : (32 : Int) - (m : Int) = (n : Int) := by omega
  have hr : rotr x n = bits BinOp.or IntKind.u32 (x * 2 ^ m % 4294967296) (x / 2 ^ n) := by rw [← hm]; exact or_comm32 _ _
  have HR := Lib.hid hr
  rw [hm] at hb
  have hw : IntKind.u64.wrap (32 - (m : Int)) = (n : Int) := by rw [hm2]; exact IntWalk.u64_in _ (by omega)
  have hm3 : m ≤ 32 := by omega
  clear hr
  go_enter Tryz.func175, Tryz.ntmps175
  go_wp2_with fail
  go_ret
  exact ⟨by rw [HR.out]; rfl, rfl⟩

theorem turn_any (x : Int) (n : Nat) (w : World) (h0 : 0 < n) (hn : n < 32) :
    Calls Tryz.prog 171 #[.int .u32 x, .int .i64 (n : Int)] w fun e w' => e = .returned (.int .u32 (rotr x n)) ∧ w = w' := by
  go_enter Tryz.func171, Tryz.ntmps171
  go_wp2_with fail
  refine (rot_any x n w h0 hn).mono ?_
  rintro e w1 ⟨rfl, rfl⟩
  go_wp2_with fail
  go_ret
  exact ⟨rfl, rfl⟩
end Go.Proofs.YtnmfjnfdnjjngaaGreatDoor.Sh

namespace Go.Proofs.YtnmfjnfdnjjngaaGreatDoor.Sh
open Go.RowKit

theorem num_at (l : List Int) (j : Nat) (h : ∀ x ∈ l, 0 ≤ x ∧ x < 256) : 0 ≤ l.getD j 0 ∧ l.getD j 0 < 256 := by
  by_cases hj : j < l.length
  · exact h _ (by simp [List.getD_eq_getElem?_getD, hj])
  · simp [List.getD_eq_getElem?_getD, hj]

theorem word_or (p q r s : Int) (hp : 0 ≤ p ∧ p < 256) (hq : 0 ≤ q ∧ q < 256) (hr : 0 ≤ r ∧ r < 256) (hs : 0 ≤ s ∧ s < 256) :
    bits BinOp.or IntKind.u32 (bits BinOp.or IntKind.u32 (bits BinOp.or IntKind.u32 (p * 16777216) (q * 65536)) (r * 256)) s = p * 16777216 + q * 65536 + r * 256 + s := by
  rw [bits_join .u32 32 (by decide) wraps_u32 24 (p * 16777216) (q * 65536) (by omega) (by omega) (by omega) (by omega) (by omega) (by omega)]
  rw [bits_join .u32 32 (by decide) wraps_u32 16 (p * 16777216 + q * 65536) (r * 256) (by omega) (by omega) (by omega) (by omega) (by omega) (by omega)]
  rw [bits_join .u32 32 (by decide) wraps_u32 8 (p * 16777216 + q * 65536 + r * 256) s (by omega) (by omega) (by omega) (by omega) (by omega) (by omega)]

theorem at_any (s : ByteArray) (k q : Nat) (w : World) (hq : 4 * k = q) (h : q + 3 < s.size) (hs : s.size ≤ 140737488351232) :
    Calls Tryz.prog 174 #[.string s, .int .i64 (q : Int)] w fun e w' => e = .returned (.int .u32 (word (nums s) k)) ∧ ∃ n, w' = w.drewN n := by
  have e0 := index_num s q (by omega)
  have e1 := index_num s (q + 1) (by omega)
  have e2 := index_num s (q + 2) (by omega)
  have e3 := index_num s (q + 3) (by omega)
  have wq : (nums s).getD q 0 * 16777216 + (nums s).getD (q + 1) 0 * 65536 + (nums s).getD (q + 2) 0 * 256 + (nums s).getD (q + 3) 0 = word (nums s) k := by rw [← hq]; rfl
  have b0 := num_at (nums s) q (nums_bd s)
  have b1 := num_at (nums s) (q + 1) (nums_bd s)
  have b2 := num_at (nums s) (q + 2) (nums_bd s)
  have b3 := num_at (nums s) (q + 3) (nums_bd s)
  have wo := word_or _ _ _ _ b0 b1 b2 b3
  rw [wq] at wo
  have WO := Lib.hid wo
  generalize (nums s).getD q 0 = p0 at e0 WO b0
  generalize (nums s).getD (q + 1) 0 = p1 at e1 WO b1
  generalize (nums s).getD (q + 2) 0 = p2 at e2 WO b2
  generalize (nums s).getD (q + 3) 0 = p3 at e3 WO b3
  obtain ⟨q1, hq1⟩ : ∃ j : Nat, q + 1 = j := ⟨_, rfl⟩
  obtain ⟨q2, hq2⟩ : ∃ j : Nat, q + 2 = j := ⟨_, rfl⟩
  obtain ⟨q3, hq3⟩ : ∃ j : Nat, q + 3 = j := ⟨_, rfl⟩
  rw [hq1] at e1
  rw [hq2] at e2
  rw [hq3] at e3
  have x1 : IntKind.i64.wrap ((q : Int) + 1) = (q1 : Int) := by rw [IntWalk.i64_in _ (by omega)]; omega
  have x2 : IntKind.i64.wrap ((q : Int) + 2) = (q2 : Int) := by rw [IntWalk.i64_in _ (by omega)]; omega
  have x3 : IntKind.i64.wrap ((q : Int) + 3) = (q3 : Int) := by rw [IntWalk.i64_in _ (by omega)]; omega
  have z1 : (q : Int) + 1 = (q1 : Int) := by omega
  have z2 : (q : Int) + 2 = (q2 : Int) := by omega
  have z3 : (q : Int) + 3 = (q3 : Int) := by omega
  have t0 : IntKind.u32.wrap p0 = p0 := IntWalk.u32_in _ (by omega)
  have t1 : IntKind.u32.wrap p1 = p1 := IntWalk.u32_in _ (by omega)
  have t2 : IntKind.u32.wrap p2 = p2 := IntWalk.u32_in _ (by omega)
  have t3 : IntKind.u32.wrap p3 = p3 := IntWalk.u32_in _ (by omega)
  clear wo wq hq1 hq2 hq3
  go_enter Tryz.func174, Tryz.ntmps174
  go_wp2_with fail
  go_quiet (fail)
  go_wp2_with fail
  go_ret
  exact ⟨by rw [← WO.out]; rfl, _, rfl⟩
end Go.Proofs.YtnmfjnfdnjjngaaGreatDoor.Sh
