/-
  The ids of the document, byte by byte.
-/
import Derived.Test.YtjclklppnkoehaaGreatDoorLf
import Derived.BigRegion
import Derived.RegionTactic
import Derived.Deep.CutBlock
import Derived.Deep.RegionWith
namespace Go.Proofs.YtjclklppnkoehaaGreatDoor.Co
open Go.RowKit
set_option maxRecDepth 100000

theorem text1 : ∀ (W : World) (b : Nat) (x : Int), W.cell? ⟨b, 0, none⟩ = some (.int .u8 x) → (convert 105 9 (.slice (some ⟨b, 0, none⟩) 1 1)).run Tryz.prog W = .ok (.string (strOfNums [x])) W := fun W b x h => by
  refine run_convert_bytes_arg W 105 5 Tryz.underlying105 Tryz.underlying5 b 0 1 1 [x] rfl (fun i hi => ?_) 9 Tryz.underlying9
  obtain rfl : i = 0 := by omega
  exact h

/-- The document's ID of a number, byte by byte. -/
def idT (n : Int) : Nat → ByteArray
  | 0 => ⟨#[]⟩
  | k + 1 => idT n k ++ strOfNums [bits BinOp.xor IntKind.u8 (n / 2 ^ (k % 8) % 256) (k : Int)]
theorem idT_size (n : Int) : ∀ k, (idT n k).size = k
  | 0 => rfl
  | k + 1 => by
    unfold idT
    rw [ByteArray.size_append, idT_size n k, strOfNums_size]
    rfl

set_option maxHeartbeats 1000000 in
theorem id_det (n : Int) (w : World) :
    Calls Tryz.prog 13 #[.int .i64 n] w fun e w' => e = .returned (.string (idT n 32)) ∧ Below w.heap.size w w' := by
  have htx := text1
  go_enter Tryz.func13, Tryz.ntmps13
  go_wp2_with fail
  go_loopg [3, 4] 32 (fun gg s c wr => ∃ (k : Nat) (t : ByteArray), k ≤ 32 ∧ 32 - k ≤ gg ∧ c = .int .i64 k ∧ s = .string t ∧ Hid (t = idT n k) ∧ Hid (Below w.heap.size w wr))
  case atStart => exact ⟨0, _, Nat.zero_le _, by omega, rfl, rfl, rfl, Below.refl _ _⟩
  case round =>
    obtain ⟨k, t, hk, hg, rfl, rfl, ht, HB⟩ := hrel
    by_cases hlt : k < 32
    · have h1 : (k : Int) < 32 := by omega
      have hd : decide ((k : Int) < 32) = true := decide_eq_true h1
      have htk : t.size = k := by rw [ht.out]; exact idT_size n k
      have hadd : ∀ (W : World) (x : Int), (Op.stringOp .add t (strOfNums [x])).run Tryz.prog W = .ok (.string (t ++ strOfNums [x])) W := fun W x => run_string_add_sum (w := W) t _ (by rw [strOfNums_size]; simp; omega)
      clear htk
      go_wp2_with fail
      go_roundg (32 - (k + 1))
      case measure => omega
      case rel => exact ⟨k + 1, _, by omega, by omega, by go_num, rfl, Lib.hid (by rw [ht.out]; rfl), HB.out.alloc HB.out.size _⟩
    · have h1 : ¬ (k : Int) < 32 := by omega
      have hk32 : k = 32 := by omega
      have HT := Lib.hid (show t = idT n 32 from by rw [ht.out, hk32])
      clear hk32
      go_wp2_with fail
      go_ret
      exact ⟨by rw [HT.out]; rfl, HB.out⟩
/-- Some text of 32 bytes. -/
theorem id_any (n : Int) (w : World) :
    Calls Tryz.prog 13 #[.int .i64 n] w fun e w' => ∃ s : ByteArray, e = .returned (.string s) ∧ s.size = 32 ∧ Below w.heap.size w w' :=
  (id_det n w).mono fun _ _ ⟨he, hb⟩ => ⟨_, he, idT_size n 32, hb⟩

end Go.Proofs.YtjclklppnkoehaaGreatDoor.Co
