/- Plain facts on guessing a quotient digit by digit. No condition beyond what the theorems state. -/
namespace Go.Proofs.Wide
/-- What a guess of a quotient's digit keeps: never below the digit, at most two above the base, its rest at hand. -/
def Guess (y1 y0 u u1 q r : Int) : Prop := (u * 4294967296 + u1) / (y1 * 4294967296 + y0) ≤ q ∧ q ≤ 4294967297 ∧ r = u - q * y1 ∧ 0 ≤ r ∧ r < 4294967296
/-- A divisor of 64 bits with its highest bit set, a dividend's upper part below it, the next 32 bits. -/
structure Low (y1 y0 u u1 : Int) : Prop where
  a : 2147483648 ≤ y1
  b : y1 < 4294967296
  c : 0 ≤ y0
  d : y0 < 4294967296
  e : 0 ≤ u
  f : u < y1 * 4294967296 + y0
  g : 0 ≤ u1
  h : u1 < 4294967296
theorem digit_bd {y1 y0 u u1 : Int} (L : Low y1 y0 u u1) : 0 ≤ (u * 4294967296 + u1) / (y1 * 4294967296 + y0) ∧ (u * 4294967296 + u1) / (y1 * 4294967296 + y0) < 4294967296 := by
  obtain ⟨a, b, c, d, e, f, g, h⟩ := L
  constructor
  · exact Int.ediv_nonneg (by omega) (by omega)
  · exact Int.ediv_lt_of_lt_mul (by omega) (by omega)
theorem guess_first {y1 y0 u u1 : Int} (L : Low y1 y0 u u1) : Guess y1 y0 u u1 (u / y1) (u - u / y1 * y1) := by
  obtain ⟨a, b, c, d, e, f, g, h⟩ := L
  have p : 0 < y1 := by omega
  have m1 := Int.mul_ediv_add_emod u y1
  have m2 := Int.emod_nonneg u (by omega : y1 ≠ 0)
  have m3 := Int.emod_lt_of_pos u p
  rw [Int.mul_comm] at m1
  refine ⟨?_, ?_, rfl, by omega, by omega⟩
  · refine Int.le_ediv_of_mul_le p ?_
    have hQ := Int.ediv_mul_le (u * 4294967296 + u1) (by omega : y1 * 4294967296 + y0 ≠ 0)
    have hQ0 : 0 ≤ (u * 4294967296 + u1) / (y1 * 4294967296 + y0) := Int.ediv_nonneg (by omega) (by omega)
    generalize (u * 4294967296 + u1) / (y1 * 4294967296 + y0) = Q at *
    rw [Int.mul_add, ← Int.mul_assoc] at hQ
    have := Int.mul_nonneg hQ0 c
    omega
  · generalize u / y1 = q at *
    by_cases hq : q ≤ 4294967297
    · exact hq
    · have : 4294967298 * y1 ≤ q * y1 := Int.mul_le_mul_of_nonneg_right (by omega) (by omega)
      omega
theorem guess_bounds {y1 y0 u u1 q r : Int} (L : Low y1 y0 u u1) (G : Guess y1 y0 u u1 q r) : 0 ≤ q ∧ 0 ≤ q * y0 ∧ q * y0 < 18446744073709551616 ∧ 0 ≤ 4294967296 * r ∧ 4294967296 * r + u1 < 18446744073709551616 := by
  have hb := digit_bd L
  obtain ⟨a, b, c, d, e, f, g, h⟩ := L
  obtain ⟨g1, g2, g3, g4, g5⟩ := G
  have q0 : 0 ≤ q := by omega
  refine ⟨q0, Int.mul_nonneg q0 c, ?_, by omega, by omega⟩
  have : q * y0 ≤ 4294967297 * 4294967295 := Int.mul_le_mul g2 (by omega) c (by omega)
  omega
/-- The test is false: the guess is the digit. -/
theorem guess_done {y1 y0 u u1 q r : Int} (L : Low y1 y0 u u1) (G : Guess y1 y0 u u1 q r) (t : q * y0 ≤ 4294967296 * r + u1) : q = (u * 4294967296 + u1) / (y1 * 4294967296 + y0) := by
  obtain ⟨a, b, c, d, e, f, g, h⟩ := L
  obtain ⟨g1, g2, rfl, g4, g5⟩ := G
  refine Int.le_antisymm (Int.le_ediv_of_mul_le (by omega) ?_) g1
  rw [Int.mul_add, ← Int.mul_assoc]
  omega
/-- The test is true: the guess is too great. -/
theorem guess_over {y1 y0 u u1 q r : Int} (L : Low y1 y0 u u1) (G : Guess y1 y0 u u1 q r) (t : 4294967296 ≤ q ∨ 4294967296 * r + u1 < q * y0) : (u * 4294967296 + u1) / (y1 * 4294967296 + y0) ≤ q - 1 := by
  have hb := digit_bd L
  obtain ⟨a, b, c, d, e, f, g, h⟩ := L
  obtain ⟨g1, g2, rfl, g4, g5⟩ := G
  rcases t with t | t
  · omega
  · have : (u * 4294967296 + u1) / (y1 * 4294967296 + y0) < q := Int.ediv_lt_of_lt_mul (by omega) (by rw [Int.mul_add, ← Int.mul_assoc]; omega)
    omega
theorem guess_next {y1 y0 u u1 q r : Int} (L : Low y1 y0 u u1) (G : Guess y1 y0 u u1 q r) (t : 4294967296 ≤ q ∨ 4294967296 * r + u1 < q * y0) (hr : r + y1 < 4294967296) : Guess y1 y0 u u1 (q - 1) (r + y1) := by
  have ho := guess_over L G t
  obtain ⟨a, b, c, d, e, f, g, h⟩ := L
  obtain ⟨g1, g2, rfl, g4, g5⟩ := G
  exact ⟨ho, by omega, by rw [Int.sub_mul]; omega, by omega, hr⟩
theorem guess_break {y1 y0 u u1 q r : Int} (L : Low y1 y0 u u1) (G : Guess y1 y0 u u1 q r) (t : 4294967296 ≤ q ∨ 4294967296 * r + u1 < q * y0) (hr : 4294967296 ≤ r + y1) : q - 1 = (u * 4294967296 + u1) / (y1 * 4294967296 + y0) := by
  have ho := guess_over L G t
  have hb := digit_bd L
  obtain ⟨a, b, c, d, e, f, g, h⟩ := L
  obtain ⟨g1, g2, rfl, g4, g5⟩ := G
  refine Int.le_antisymm (Int.le_ediv_of_mul_le (by omega) ?_) ho
  rw [Int.mul_add, ← Int.mul_assoc, Int.sub_mul q 1 y0, Int.sub_mul q 1 y1]
  have : q * y0 ≤ 4294967297 * y0 := Int.mul_le_mul_of_nonneg_right g2 c
  omega
/-- The rest behind a digit, as the words give it. -/
theorem rest_word (u u1 y Q : Int) (h : Q = (u * 4294967296 + u1) / y) (hy : 0 < y) (hy' : y < 18446744073709551616) :
    (u * 4294967296 + u1 - Q * y) = (u * 4294967296 + u1) % y ∧ 0 ≤ (u * 4294967296 + u1) % y ∧ (u * 4294967296 + u1) % y < y := by
  subst h
  have m1 := Int.mul_ediv_add_emod (u * 4294967296 + u1) y
  rw [Int.mul_comm] at m1
  exact ⟨by omega, Int.emod_nonneg _ (by omega), Int.emod_lt_of_pos _ hy⟩
/-- Two digits make the quotient. -/
theorem two_digits (u u1 u0 y : Int) (hy : 0 < y) :
    ((u * 4294967296 + u1) / y) * 4294967296 + (((u * 4294967296 + u1) % y) * 4294967296 + u0) / y = (u * 18446744073709551616 + u1 * 4294967296 + u0) / y ∧
    (((u * 4294967296 + u1) % y) * 4294967296 + u0) % y = (u * 18446744073709551616 + u1 * 4294967296 + u0) % y := by
  have m1 := Int.mul_ediv_add_emod (u * 4294967296 + u1) y
  have e : u * 18446744073709551616 + u1 * 4294967296 + u0 = ((u * 4294967296 + u1) % y) * 4294967296 + u0 + y * ((u * 4294967296 + u1) / y * 4294967296) := by
    rw [← Int.mul_assoc]; omega
  rw [e]
  constructor
  · rw [Int.add_mul_ediv_left _ _ (by omega)]; omega
  · rw [Int.add_mul_emod_self_left]
end Go.Proofs.Wide
