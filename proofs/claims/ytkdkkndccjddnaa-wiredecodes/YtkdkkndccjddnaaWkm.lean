/-
  What the document fixes of layer 6: the first example's bytes, reckoned.
-/
import Derived.Test.YtkdkkndccjddnaaDec
import Derived.Test.YtkdkkndccjddnaaEnc
import Derived.Test.YtkdkkndccjddnaaRpt
import Derived.Test.YtkdkkndccjddnaaSame
namespace Go.Proofs.Ytkdkkndccjddnaa
open Go.RowKit

/-- The grant of height 0 with one Out of 0, and its bytes. -/
def gT : TxD := grantD 0 [⟨0, ⟨#[]⟩⟩]
def gS : ByteArray := ⟨#[2, 0, 0, 0, 1, 0, 0, 0, 0, 0, 0, 0, 0, 0, 0, 0, 0, 0, 0, 0, 0, 0, 0, 0, 0, 0, 0, 0, 0, 0, 0, 0, 0, 0, 0, 0, 0, 255, 255, 255, 255, 0, 255, 255, 255, 255, 1, 0, 0, 0, 0, 0, 0, 0, 0, 0, 0, 0, 0, 0]⟩
theorem g_check : checkD gT = 0 := by decide +kernel
theorem g_has : hasW gT = false := by decide +kernel
theorem g_enc : encS gT (hasW gT) = gS := by decide +kernel
theorem g_dcE : dcE gS = 0 := by decide +kernel
theorem g_dcA : dcA gS = 60 := by decide +kernel
theorem g_same : txB (dcT gS) gT = true := by decide +kernel
theorem g_dcE1 : dcE (gS ++ ⟨#[120]⟩) = 4 := by decide +kernel
theorem g_dcA1 : dcA (gS ++ ⟨#[120]⟩) = 60 := by decide +kernel
theorem g_want : (⟨#[2, 0, 0, 0, 1]⟩ ++ ⟨(zerosL 32).toArray⟩ : ByteArray) ++ ⟨#[255, 255, 255, 255, 0, 255, 255, 255, 255, 1]⟩ ++ ⟨(zerosL 13).toArray⟩ = gS := by decide +kernel
theorem g_size : gS.size = 60 := by decide +kernel
theorem g_ver : (dcT gS).ver = 2 ∧ (dcT gS).lock = 0 := by decide +kernel

end Go.Proofs.Ytkdkkndccjddnaa
