/-
  What a builder holds, as a text.
-/
import Derived.Test.YtkdkkndccjddnaaClo
import Derived.Shelf.Strings.Builder1
namespace Go.Proofs.Ytkdkkndccjddnaa
open Go.RowKit

def ren47 : Go.Shelf.Ren := ⟨fun | 169 => 47 | n => n, fun | 70 => 91 | 72 => 93 | 37 => 80 | 127 => 119 | n => n, fun n => n⟩
theorem lay47 : Go.Proofs.Lays.n169 Try.prog ren47 :=
  { mixed := by kernel_rfl, f169 := Try.func47.trans (congrArg some (by kernel_rfl)),
    t0 := Try.underlying0, a0 := Try.isAgg0, z0 := Try.sizeOf0, v0 := Try.zeroValue0, t3 := Try.underlying3, a3 := Try.isAgg3, z3 := Try.sizeOf3, v3 := Try.zeroValue3,
    t9 := Try.underlying9, a9 := Try.isAgg9, z9 := Try.sizeOf9, v9 := Try.zeroValue9, t37 := Try.underlying80, a37 := Try.isAgg80, z37 := Try.sizeOf80, v37 := Try.zeroValue80,
    t70 := Try.underlying91, a70 := Try.isAgg91, z70 := Try.sizeOf91, v70 := Try.zeroValue91, t72 := Try.underlying93, a72 := Try.isAgg93, z72 := Try.sizeOf93, v72 := Try.zeroValue93,
    t127 := Try.underlying119, a127 := Try.isAgg119, z127 := Try.sizeOf119, v127 := Try.zeroValue119 }
theorem lay47x : Builder.Extra Try.prog ren47 :=
  { sizeBuilder := by kernel_rfl, liesBuilder := by kernel_rfl, t5 := Try.underlying5, a5 := Try.isAgg5, z5 := Try.sizeOf5, v5 := Try.zeroValue5, infoByte := by kernel_rfl, cellsByte := by kernel_rfl, sizeByte := by kernel_rfl, neB5 := by decide }

theorem string_any (B b : Nat) (s : ByteArray) (w : World) (h : Bld B b s w) : Calls Try.prog 47 #[.pointer (some ⟨b, 0, none⟩)] w fun e w' => e = .returned (.string s) ∧ Below B w w' := by
  have hl := h.lt
  exact Any.Builder_String_any lay47 lay47x B b s.data.toList w h (by omega)

end Go.Proofs.Ytkdkkndccjddnaa
