/- Plain facts on whole numbers of 128 bits in two words. No condition beyond what the theorems state. -/
namespace Go.Proofs.Wide
/-- The upper and the lower word of a whole number of 128 bits. -/
def hi (x : Int) : Int := x / 18446744073709551616 % 18446744073709551616
def lo (x : Int) : Int := x % 18446744073709551616
def bor (x y : Int) : Int := if x < y then 1 else 0
theorem lo_bd (x : Int) : 0 ≤ lo x ∧ lo x < 18446744073709551616 := by unfold lo; omega
theorem hi_bd (x : Int) : 0 ≤ hi x ∧ hi x < 18446744073709551616 := by unfold hi; omega
theorem lo_add (x y : Int) : (lo x + lo y) % 18446744073709551616 = lo (x + y) := by unfold lo; omega
theorem hi_add (x y : Int) : (hi x + hi y + (lo x + lo y) / 18446744073709551616) % 18446744073709551616 = hi (x + y) := by unfold hi lo; omega
theorem lo_sub (x y : Int) : (lo x - lo y) % 18446744073709551616 = lo (x - y) := by unfold lo; omega
theorem hi_sub (x y : Int) : (hi x - hi y - bor (lo x) (lo y)) % 18446744073709551616 = hi (x - y) := by unfold hi lo bor; split <;> omega
theorem parts (x : Int) : ∃ k : Int, x = lo x + 18446744073709551616 * (hi x + 18446744073709551616 * k) := ⟨x / 18446744073709551616 / 18446744073709551616, by unfold lo hi; omega⟩
theorem lo_mul (x y : Int) : (lo x * lo y) % 18446744073709551616 = lo (x * y) := by
  unfold lo; rw [← Int.mul_emod]
theorem aux (p q r : Int) : (p / 18446744073709551616 + q) % 18446744073709551616 = hi (p + 18446744073709551616 * (q + 18446744073709551616 * r)) := by unfold hi; omega
theorem hi_mul (x y : Int) : ((lo x * lo y) / 18446744073709551616 + hi x * lo y + lo x * hi y) % 18446744073709551616 = hi (x * y) := by
  obtain ⟨k, hk⟩ := parts x
  obtain ⟨l, hl⟩ := parts y
  have e : x * y = lo x * lo y + 18446744073709551616 * ((hi x * lo y + lo x * hi y) + 18446744073709551616 * (lo x * l + k * lo y + (hi x + 18446744073709551616 * k) * (hi y + 18446744073709551616 * l))) := by
    conv => lhs; rw [hk, hl]
    generalize lo x = a, lo y = b, hi x = c, hi y = d
    simp only [Int.mul_add, Int.add_mul, Int.mul_assoc, Int.mul_left_comm, Int.mul_comm]
    omega
  rw [e, Int.add_assoc]
  exact aux _ _ _
theorem hi_of (n : Int) (h0 : 0 ≤ n) (h1 : n < 18446744073709551616) : hi n = 0 ∧ lo n = n := by unfold hi lo; omega
theorem hi_neg (n : Int) (h0 : n < 0) (h1 : -18446744073709551616 ≤ n) : hi n = 18446744073709551615 ∧ lo n = n + 18446744073709551616 := by unfold hi lo; omega
theorem neg_iff (x : Int) (h0 : -170141183460469231731687303715884105728 ≤ x) (h1 : x < 170141183460469231731687303715884105728) : hi x / 9223372036854775808 = (if x < 0 then 1 else 0) := by
  unfold hi; split <;> omega
theorem zero_iff (x : Int) (h0 : -170141183460469231731687303715884105728 ≤ x) (h1 : x < 170141183460469231731687303715884105728) : (hi x = 0 ∧ lo x = 0) ↔ x = 0 := by
  unfold hi lo; omega
/-- Whole numbers from their two words. -/
theorem join (a b : Int) (ha : 0 ≤ a ∧ a < 18446744073709551616) (hb : 0 ≤ b ∧ b < 18446744073709551616) : hi (a * 18446744073709551616 + b) = a ∧ lo (a * 18446744073709551616 + b) = b := by
  unfold hi lo; omega
end Go.Proofs.Wide
