/-
  The digest of a text: plain mathematics.
-/
import Derived.Test.YtfobdefncbaooaaDoorHsmath
import Derived.Test.YtfobdefncbaooaaDoorHpmath
namespace Go.Proofs.YtfobdefncbaooaaDoor.Sh

/-- The words that a digest begins with. -/
def start : List Int := [1779033703, 3144134277, 1013904242, 2773480762, 1359893119, 2600822924, 528734635, 1541459225]
/-- The words behind j blocks. -/
def hsh (p : List Int) : Nat → List Int
  | 0 => start
  | j + 1 => blk (hsh p j) ((p.drop (64 * j)).take 64)
theorem hsh_length (p : List Int) : ∀ j, (hsh p j).length = 8
  | 0 => rfl
  | j + 1 => blk_length _ _ (hsh_length p j)
/-- A word's bytes, the highest first. -/
def be4 (x : Int) : List Int := [x / 16777216 % 256, x / 65536 % 256, x / 256 % 256, x % 256]
/-- The bytes of words. -/
def wbytes (l : List Int) : List Int := l.flatMap be4
theorem wbytes_more (l : List Int) (k : Nat) (h : k < l.length) : wbytes (l.take (k + 1)) = wbytes (l.take k) ++ be4 (l.getD k 0) := by
  rw [take_more l k h]
  simp [wbytes]
theorem wbytes_length (l : List Int) : (wbytes l).length = 4 * l.length := by
  induction l with
  | nil => rfl
  | cons a l ih =>
    have e : wbytes (a :: l) = be4 a ++ wbytes l := by simp [wbytes]
    rw [e, List.length_append, ih, List.length_cons]
    simp [be4]
    omega
theorem wbytes_bd (l : List Int) : ∀ b ∈ wbytes l, 0 ≤ b ∧ b < 256 := by
  intro b h
  simp only [wbytes, List.mem_flatMap, be4] at h
  obtain ⟨x, _, h⟩ := h
  simp only [List.mem_cons, List.not_mem_nil, or_false] at h
  rcases h with rfl | rfl | rfl | rfl <;> omega
/-- The digest. -/
def digest (s : ByteArray) : ByteArray := strOfNums (wbytes (hsh (padL (nums s)) ((padL (nums s)).length / 64)))
theorem digest_size (s : ByteArray) : (digest s).size = 32 := by
  unfold digest
  rw [strOfNums_size, wbytes_length, hsh_length]
theorem str_append (l r : List Int) : strOfNums (l ++ r) = strOfNums l ++ strOfNums r := by
  refine ByteArray.ext ?_
  rw [ByteArray.data_append]
  simp [strOfNums]

set_option maxRecDepth 100000 in
theorem digest_abc : digest ⟨#[97, 98, 99]⟩ = ⟨#[0xba, 0x78, 0x16, 0xbf, 0x8f, 0x01, 0xcf, 0xea, 0x41, 0x41, 0x40, 0xde, 0x5d, 0xae, 0x22, 0x23, 0xb0, 0x03, 0x61, 0xa3, 0x96, 0x17, 0x7a, 0x9c, 0xb4, 0x10, 0xff, 0x61, 0xf2, 0x00, 0x15, 0xad]⟩ := by
  decide +kernel
end Go.Proofs.YtfobdefncbaooaaDoor.Sh
