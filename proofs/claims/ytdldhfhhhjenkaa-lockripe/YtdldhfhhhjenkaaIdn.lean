/-
  The document's ID of a number: some text of 32 bytes.
-/
import Derived.Test.YtdldhfhhhjenkaaGz
import Derived.Laws.BitsLemmas
import Derived.Laws.Concat
namespace Go.Proofs.Ytdldhfhhhjenkaa
open Go.RowKit

theorem text1 : ∀ (W : World) (b : Nat) (x : Int), W.cell? ⟨b, 0, none⟩ = some (.int .u8 x) → (convert 72 9 (.slice (some ⟨b, 0, none⟩) 1 1)).run Try.prog W = .ok (.string (strOfNums [x])) W := fun W b x h => by
  refine run_convert_bytes_arg W 72 5 Try.underlying72 Try.underlying5 b 0 1 1 [x] rfl (fun i hi => ?_) 9 Try.underlying9
  obtain rfl : i = 0 := by omega
  exact h

set_option maxHeartbeats 1000000 in
theorem id_any (n : Int) (w : World) :
    Calls Try.prog 44 #[.int .i64 n] w fun e w' => ∃ s : ByteArray, e = .returned (.string s) ∧ s.size = 32 ∧ Below w.heap.size w w' := by
  have htx := text1
  go_enter Try.func44, Try.ntmps44
  go_wp2_with fail
  go_loopg [3, 4] 32 (fun gg s c wr => ∃ (k : Nat) (t : ByteArray), k ≤ 32 ∧ 32 - k ≤ gg ∧ c = .int .i64 k ∧ s = .string t ∧ t.size = k ∧ Hid (Below w.heap.size w wr))
  case atStart => exact ⟨0, _, Nat.zero_le _, by omega, rfl, rfl, rfl, Below.refl _ _⟩
  case round =>
    obtain ⟨k, t, hk, hg, rfl, rfl, ht, HB⟩ := hrel
    by_cases hlt : k < 32
    · have h1 : (k : Int) < 32 := by omega
      have hd : decide ((k : Int) < 32) = true := decide_eq_true h1
      have hadd : ∀ (W : World) (x : Int), (Op.stringOp .add t (strOfNums [x])).run Try.prog W = .ok (.string (t ++ strOfNums [x])) W := fun W x => run_string_add_sum (w := W) t _ (by rw [strOfNums_size]; simp; omega)
      go_wp2_with fail
      go_roundg (32 - (k + 1))
      case measure => omega
      case rel => exact ⟨k + 1, _, by omega, by omega, by go_num, rfl, by simp [ByteArray.size_append, strOfNums_size, ht], HB.out.alloc HB.out.size _⟩
    · have h1 : ¬ (k : Int) < 32 := by omega
      go_wp2_with fail
      go_ret
      exact ⟨_, rfl, by omega, HB.out⟩

end Go.Proofs.Ytdldhfhhhjenkaa
