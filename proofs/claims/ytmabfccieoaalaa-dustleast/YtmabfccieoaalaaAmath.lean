/-
  Plain mathematics of amounts and rates: no Go text.
-/
namespace Go.Proofs.Ytmabfccieoaalaa.Am

/-- Is a number from 0 to the most? -/
def inB (n m : Int) : Bool := decide (0 ≤ n) && decide (n ≤ m)

theorem inB_iff (n m : Int) : inB n m = true ↔ 0 ≤ n ∧ n ≤ m := by
  unfold inB; simp

theorem inB_true {n m : Int} (h1 : 0 ≤ n) (h2 : n ≤ m) : inB n m = true := (inB_iff n m).2 ⟨h1, h2⟩

theorem inB_false {n m : Int} (h : ¬ (0 ≤ n ∧ n ≤ m)) : inB n m = false := by
  cases hb : inB n m
  · rfl
  · exact absurd ((inB_iff n m).1 hb) h

/-- An amount. -/
def goodB (a : Int) : Bool := inB a 2100000000000000
theorem goodB_iff (a : Int) : goodB a = true ↔ 0 ≤ a ∧ a ≤ 2100000000000000 := inB_iff _ _
theorem goodB_true {a : Int} (h1 : 0 ≤ a) (h2 : a ≤ 2100000000000000) : goodB a = true := inB_true h1 h2
theorem goodB_false {a : Int} (h : ¬ (0 ≤ a ∧ a ≤ 2100000000000000)) : goodB a = false := inB_false h

def addOk (a b : Int) : Bool := goodB a && goodB b && goodB (a + b)
def addV (a b : Int) : Int := if addOk a b = true then a + b else 0
def addE (a b : Int) : Int := if addOk a b = true then 0 else 3

def subOk (a b : Int) : Bool := goodB a && goodB b && decide (b ≤ a)
def subV (a b : Int) : Int := if subOk a b = true then a - b else 0
def subE (a b : Int) : Int := if subOk a b = true then 0 else 3

def feeOk (r s : Int) : Bool := inB r 100000000 && inB s 1000000
def feeV (r s : Int) : Int := if feeOk r s = true then (r * s + 999) / 1000 else 0
def feeE (r s : Int) : Int := if feeOk r s = true then 0 else 3

/-- May a fee be divided by a size? -/
def hasB (f s : Int) : Bool := goodB f && inB s 1000000 && !(s == 0)
theorem hasB_iff (f s : Int) : hasB f s = true ↔ (0 ≤ f ∧ f ≤ 2100000000000000) ∧ 1 ≤ s ∧ s ≤ 1000000 := by
  unfold hasB; simp [goodB_iff, inB_iff]; omega
def rateV (f s : Int) : Int := if hasB f s = true then f * 1000 / s else 0
def rateE (f s : Int) : Int := if hasB f s = true then 0 else 3

/-- How two numbers are to one another. -/
def cmpI (x y : Int) : Int := if x < y then -1 else if y < x then 1 else 0

/-- How two rates are to one another, exactly. -/
def cmpR (f s o i : Int) : Int := if hasB f s = true ∧ hasB o i = true then cmpI (f * i) (o * s) else 0

theorem cmpI_lt {x y : Int} (h : x < y) : cmpI x y = -1 := if_pos h
theorem cmpI_gt {x y : Int} (h : y < x) : cmpI x y = 1 := by unfold cmpI; rw [if_neg (by omega), if_pos h]
theorem cmpI_eq {x y : Int} (h : x = y) : cmpI x y = 0 := by unfold cmpI; rw [if_neg (by omega), if_neg (by omega)]

theorem cmpI_swap (x y : Int) : cmpI y x = - cmpI x y := by
  unfold cmpI; split <;> split <;> (try split) <;> omega

/-- The whole parts first, then what is left. -/
theorem cmp_parts (f s o i : Int) (hf : 0 ≤ f) (hs : 1 ≤ s) (ho : 0 ≤ o) (hi : 1 ≤ i) :
    cmpI (f * i) (o * s) = if cmpI (f / s) (o / i) ≠ 0 then cmpI (f / s) (o / i) else cmpI (f % s * i) (o % i * s) := by
  have e1 : f = f / s * s + f % s := by rw [Int.mul_comm]; exact (Int.mul_ediv_add_emod f s).symm
  have e2 : o = o / i * i + o % i := by rw [Int.mul_comm]; exact (Int.mul_ediv_add_emod o i).symm
  have b1 := Int.emod_nonneg f (show s ≠ 0 by omega)
  have b2 := Int.emod_lt_of_pos f (show 0 < s by omega)
  have b3 := Int.emod_nonneg o (show i ≠ 0 by omega)
  have b4 := Int.emod_lt_of_pos o (show 0 < i by omega)
  generalize f / s = p at *
  generalize f % s = q at *
  generalize o / i = u at *
  generalize o % i = v at *
  subst e1 e2
  have hsi : 0 < s * i := Int.mul_pos (by omega) (by omega)
  have hL : (p * s + q) * i = p * (s * i) + q * i := by rw [Int.add_mul, Int.mul_assoc]
  have hR : (u * i + v) * s = u * (s * i) + v * s := by rw [Int.add_mul, Int.mul_assoc, Int.mul_comm i s]
  have q1 : 0 ≤ q * i := Int.mul_nonneg b1 (by omega)
  have q2 : q * i < s * i := Int.mul_lt_mul_of_pos_right b2 (by omega)
  have v1 : 0 ≤ v * s := Int.mul_nonneg b3 (by omega)
  have v2 : v * s < s * i := by rw [Int.mul_comm s i]; exact Int.mul_lt_mul_of_pos_right b4 (by omega)
  rw [hL, hR]
  generalize s * i = t at *
  generalize q * i = q' at *
  generalize v * s = v' at *
  unfold cmpI
  by_cases h1 : p < u
  · have : (p + 1) * t ≤ u * t := Int.mul_le_mul_of_nonneg_right (by omega) (by omega)
    rw [Int.add_mul] at this
    simp [h1]; omega
  · by_cases h2 : u < p
    · have : (u + 1) * t ≤ p * t := Int.mul_le_mul_of_nonneg_right (by omega) (by omega)
      rw [Int.add_mul] at this
      simp [h1, h2]
      rw [if_neg (by omega), if_pos (by omega)]
    · have : p = u := by omega
      subst this
      simp
end Go.Proofs.Ytmabfccieoaalaa.Am
