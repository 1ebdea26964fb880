/-
  What a builder holds, as a text.
-/
import Derived.Test.YtfobdefncbaooaaDoorClo
import Derived.Shelf.Strings.Builder1
namespace Go.Proofs.YtfobdefncbaooaaDoor
open Go.RowKit

def ren47 : Go.Shelf.Ren := ⟨fun | 169 => 70 | n => n, fun | 70 => 90 | 72 => 92 | 37 => 73 | 127 => 122 | n => n, fun n => n⟩
theorem lay47 : Go.Proofs.Lays.n169 Tryd.prog ren47 :=
  { mixed := by kernel_rfl, f169 := Tryd.func70.trans (congrArg some (by kernel_rfl)),
    t0 := Tryd.underlying0, a0 := Tryd.isAgg0, z0 := Tryd.sizeOf0, v0 := Tryd.zeroValue0, t3 := Tryd.underlying3, a3 := Tryd.isAgg3, z3 := Tryd.sizeOf3, v3 := Tryd.zeroValue3,
    t9 := Tryd.underlying9, a9 := Tryd.isAgg9, z9 := Tryd.sizeOf9, v9 := Tryd.zeroValue9, t37 := Tryd.underlying73, a37 := Tryd.isAgg73, z37 := Tryd.sizeOf73, v37 := Tryd.zeroValue73,
    t70 := Tryd.underlying90, a70 := Tryd.isAgg90, z70 := Tryd.sizeOf90, v70 := Tryd.zeroValue90, t72 := Tryd.underlying92, a72 := Tryd.isAgg92, z72 := Tryd.sizeOf92, v72 := Tryd.zeroValue92,
    t127 := Tryd.underlying122, a127 := Tryd.isAgg122, z127 := Tryd.sizeOf122, v127 := Tryd.zeroValue122 }
theorem lay47x : Builder.Extra Tryd.prog ren47 :=
  { sizeBuilder := by kernel_rfl, liesBuilder := by kernel_rfl, t5 := Tryd.underlying5, a5 := Tryd.isAgg5, z5 := Tryd.sizeOf5, v5 := Tryd.zeroValue5, infoByte := by kernel_rfl, cellsByte := by kernel_rfl, sizeByte := by kernel_rfl, neB5 := by decide }

theorem string_any (B b : Nat) (s : ByteArray) (w : World) (h : Bld B b s w) : Calls Tryd.prog 70 #[.pointer (some ⟨b, 0, none⟩)] w fun e w' => e = .returned (.string s) ∧ Below B w w' := by
  have hl := h.lt
  exact Any.Builder_String_any lay47 lay47x B b s.data.toList w h (by omega)

end Go.Proofs.YtfobdefncbaooaaDoor
