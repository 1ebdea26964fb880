/-
  The document's Decode, walked.
-/
import Derived.Test.YtkdkkndccjddnaaRdm
import Derived.Test.YtkdkkndccjddnaaRlong
import Derived.Deep.AppendLies
import Derived.Deep.RegionLawGrows
namespace Go.Proofs.Ytkdkkndccjddnaa
open Go.RowKit

theorem OutsOwn.base {w : World} {base base' top : Nat} {v : Value} {ys : List OutD} (h : OutsOwn w base top v ys) (hb : base' ≤ base) : OutsOwn w base' top v ys := by
  obtain ⟨cells, hown, hall⟩ := h
  exact ⟨cells, hown.base hb, hall⟩
/-- Is there a marker, as the document asks it? -/
theorem mk_doc {s : ByteArray} {z : St} (hz : z.e = 0) (h : z.a < s.size) : mkV s z = (Vi.fst s z.a == 0) := by
  show (Vi.okB s z.a 1 && (Vi.getN s z.a 1 == 0) && (z.e == 0)) = _
  have o : Vi.okB s z.a 1 = true := Vi.okB_yes (k := 1) (by decide) (by omega)
  rw [o, hz]
  simp [Vi.fst]
theorem mk_doc_end {s : ByteArray} {z : St} (h : ¬ z.a < s.size) : mkV s z = false := by
  show (Vi.okB s z.a 1 && (Vi.getN s z.a 1 == 0) && (z.e == 0)) = _
  have o : Vi.okB s z.a 1 = false := Vi.okB_far (by omega)
  rw [o]
  rfl
theorem mk_doc_err {s : ByteArray} {z : St} (h : ¬ z.e = 0) : mkV s z = false := by
  show (Vi.okB s z.a 1 && (Vi.getN s z.a 1 == 0) && (z.e == 0)) = _
  have : (z.e == 0) = false := by simpa using h
  rw [this]
  simp
/-- The flag, as the document reads it. -/
theorem flag_doc {s : ByteArray} {a : Nat} :
    (if (numSt s 1 0 1 4 ⟨a, 0⟩).e = 0 ∧ numV s 1 0 1 4 ⟨a, 0⟩ = 0 then (⟨a, 4⟩ : St) else numSt s 1 0 1 4 ⟨a, 0⟩) = numSt s 1 1 1 4 ⟨a, 0⟩ ∧ ((numSt s 1 0 1 4 ⟨a, 0⟩).e = 0 → (numSt s 1 0 1 4 ⟨a, 0⟩).a = a + 1) := by
  have hn := getN_pos s a 1
  by_cases ho : Vi.okB s a 1 = true
  · have hE0 : numE s a 0 1 0 1 4 = if 1 < Vi.getN s a 1 then 4 else 0 := by
      unfold numE spanE refD
      rw [ho]
      simp
      by_cases h : 1 < Vi.getN s a 1
      · simp [h]
      · have : ¬ Vi.getN s a 1 < 0 := by omega
        simp [h, this]
    have hE1 : numE s a 0 1 1 1 4 = if Vi.getN s a 1 = 1 then 0 else 4 := by
      unfold numE spanE refD
      rw [ho]
      simp
      by_cases h : Vi.getN s a 1 = 1
      · simp [h]
      · have : Vi.getN s a 1 < 1 ∨ 1 < Vi.getN s a 1 := by omega
        simp [h, this]
    have q0 : numSt s 1 0 1 4 ⟨a, 0⟩ = ⟨if numE s a 0 1 0 1 4 = 0 then a + 1 else a, numE s a 0 1 0 1 4⟩ := rfl
    have q1 : numSt s 1 1 1 4 ⟨a, 0⟩ = ⟨if numE s a 0 1 1 1 4 = 0 then a + 1 else a, numE s a 0 1 1 1 4⟩ := rfl
    have q2 : numV s 1 0 1 4 ⟨a, 0⟩ = okN (numE s a 0 1 0 1 4) (Vi.getN s a 1) := rfl
    rw [q0, q1, q2, hE0, hE1]
    by_cases h1 : 1 < Vi.getN s a 1
    · have h2 : ¬ Vi.getN s a 1 = 1 := by omega
      simp [h1, h2]
    · by_cases h2 : Vi.getN s a 1 = 1
      · simp [h2, okN]
      · have h3 : Vi.getN s a 1 = 0 := by omega
        simp [h3, okN]
  · have ho' : Vi.okB s a 1 = false := by simpa using ho
    have hg : Vi.getN s a 1 = 0 := Vi.getN_no ho'
    have hE0 : numE s a 0 1 0 1 4 = 5 := by
      unfold numE spanE refD
      rw [ho', hg]
      simp
    have hE1 : numE s a 0 1 1 1 4 = 5 := by
      unfold numE spanE refD
      rw [ho', hg]
      simp
    have q0 : numSt s 1 0 1 4 ⟨a, 0⟩ = ⟨if numE s a 0 1 0 1 4 = 0 then a + 1 else a, numE s a 0 1 0 1 4⟩ := rfl
    have q1 : numSt s 1 1 1 4 ⟨a, 0⟩ = ⟨if numE s a 0 1 1 1 4 = 0 then a + 1 else a, numE s a 0 1 1 1 4⟩ := rfl
    rw [q0, q1, hE0, hE1]
    simp

end Go.Proofs.Ytkdkkndccjddnaa
