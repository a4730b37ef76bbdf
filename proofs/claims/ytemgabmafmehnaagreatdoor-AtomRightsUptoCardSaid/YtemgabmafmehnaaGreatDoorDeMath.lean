/- Plain facts on decimal numbers and their digits; an invariant through a region that draws its order. No condition beyond what the theorems state. -/
import Derived.Below
import Derived.RegionTactic
import Derived.Deep.Draws
import Derived.Laws.OwnMore
import Derived.Maps.AppendAt
import Derived.Deep.AppendLies
import Derived.OwnWalk
namespace Go.Proofs.Wide
/-- The upper and the lower word of a whole number of 128 bits. -/
def hi (x : Int) : Int := x / 18446744073709551616 % 18446744073709551616
def lo (x : Int) : Int := x % 18446744073709551616
def bor (x y : Int) : Int := if x < y then 1 else 0
theorem lo_bd (x : Int) : 0 ≤ lo x ∧ lo x < 18446744073709551616 := by unfold lo; omega
theorem hi_bd (x : Int) : 0 ≤ hi x ∧ hi x < 18446744073709551616 := by unfold hi; omega
theorem lo_add (x y : Int) : (lo x + lo y) % 18446744073709551616 = lo (x + y) := by unfold lo; omega
theorem hi_add (x y : Int) : (hi x + hi y + (lo x + lo y) / 18446744073709551616) % 18446744073709551616 = hi (x + y) := by unfold hi lo; omega
theorem lo_sub (x y : Int) : (lo x - lo y) % 18446744073709551616 = lo (x - y) := by unfold lo; omega
theorem hi_sub (x y : Int) : (hi x - hi y - bor (lo x) (lo y)) % 18446744073709551616 = hi (x - y) := by unfold hi lo bor; split <;> omega
theorem parts (x : Int) : ∃ k : Int, x = lo x + 18446744073709551616 * (hi x + 18446744073709551616 * k) := ⟨x / 18446744073709551616 / 18446744073709551616, by unfold lo hi; omega⟩
theorem lo_mul (x y : Int) : (lo x * lo y) % 18446744073709551616 = lo (x * y) := by
  unfold lo; rw [← Int.mul_emod]
theorem aux (p q r : Int) : (p / 18446744073709551616 + q) % 18446744073709551616 = hi (p + 18446744073709551616 * (q + 18446744073709551616 * r)) := by unfold hi; omega
theorem hi_mul (x y : Int) : ((lo x * lo y) / 18446744073709551616 + hi x * lo y + lo x * hi y) % 18446744073709551616 = hi (x * y) := by
  obtain ⟨k, hk⟩ := parts x
  obtain ⟨l, hl⟩ := parts y
  have e : x * y = lo x * lo y + 18446744073709551616 * ((hi x * lo y + lo x * hi y) + 18446744073709551616 * (lo x * l + k * lo y + (hi x + 18446744073709551616 * k) * (hi y + 18446744073709551616 * l))) := by
    conv => lhs; rw [hk, hl]
    generalize lo x = a, lo y = b, hi x = c, hi y = d
    simp only [Int.mul_add, Int.add_mul, Int.mul_assoc, Int.mul_left_comm, Int.mul_comm]
    omega
  rw [e, Int.add_assoc]
  exact aux _ _ _
theorem hi_of (n : Int) (h0 : 0 ≤ n) (h1 : n < 18446744073709551616) : hi n = 0 ∧ lo n = n := by unfold hi lo; omega
theorem hi_neg (n : Int) (h0 : n < 0) (h1 : -18446744073709551616 ≤ n) : hi n = 18446744073709551615 ∧ lo n = n + 18446744073709551616 := by unfold hi lo; omega
theorem neg_iff (x : Int) (h0 : -170141183460469231731687303715884105728 ≤ x) (h1 : x < 170141183460469231731687303715884105728) : hi x / 9223372036854775808 = (if x < 0 then 1 else 0) := by
  unfold hi; split <;> omega
theorem zero_iff (x : Int) (h0 : -170141183460469231731687303715884105728 ≤ x) (h1 : x < 170141183460469231731687303715884105728) : (hi x = 0 ∧ lo x = 0) ↔ x = 0 := by
  unfold hi lo; omega
/-- Whole numbers from their two words. -/
theorem join (a b : Int) (ha : 0 ≤ a ∧ a < 18446744073709551616) (hb : 0 ≤ b ∧ b < 18446744073709551616) : hi (a * 18446744073709551616 + b) = a ∧ lo (a * 18446744073709551616 + b) = b := by
  unfold hi lo; omega
end Go.Proofs.Wide
namespace Go.Proofs.Wide
/-- Noughts at the end are struck off, as long as there is a scale. -/
def norm : Nat → Int → Int × Nat
  | 0, x => (x, 0)
  | s + 1, x => if x % 10 = 0 then norm s (x / 10) else (x, s + 1)
/-- The digits behind the ninth are cut. -/
def cut (x : Int) (s : Nat) : Int := if 9 < s then x.tdiv (10 ^ (s - 9)) else x
/-- To fit. -/
def fitZ (x : Int) (s : Nat) : Option (Int × Nat) :=
  if -999999999999999999 ≤ (norm (min s 9) (cut x s)).1 ∧ (norm (min s 9) (cut x s)).1 ≤ 999999999999999999 then some (norm (min s 9) (cut x s)) else none
def RightZ (n : Int) (k : Nat) : Prop := -999999999999999999 ≤ n ∧ n ≤ 999999999999999999 ∧ k ≤ 9 ∧ (k = 0 ∨ n % 10 ≠ 0)
/-- The value in parts of ten to the ninth. -/
def v9 (n : Int) (k : Nat) : Int := n * 10 ^ (9 - k)

theorem pow_pos' (k : Nat) : (0 : Int) < 10 ^ k := Int.pow_pos (by decide)
theorem norm_spec (s : Nat) : ∀ x, (norm s x).2 ≤ s ∧ (norm s x).1 * 10 ^ (s - (norm s x).2) = x ∧ ((norm s x).2 = 0 ∨ (norm s x).1 % 10 ≠ 0) := by
  induction s with
  | zero => intro x; simp [norm]
  | succ s ih =>
    intro x
    unfold norm
    by_cases h : x % 10 = 0
    · rw [if_pos h]
      obtain ⟨a, b, c⟩ := ih (x / 10)
      refine ⟨by omega, ?_, c⟩
      rw [show s + 1 - (norm s (x / 10)).2 = (s - (norm s (x / 10)).2) + 1 by omega, Int.pow_succ, ← Int.mul_assoc, b]
      omega
    · rw [if_neg h]; simp [h]
theorem norm_up (s : Nat) (x : Int) : norm (s + 1) (x * 10) = norm s x := by
  unfold norm
  rw [if_pos (by omega), show x * 10 / 10 = x by omega]
  cases s <;> rfl
theorem norm_ups (s j : Nat) (x : Int) : norm (s + j) (x * 10 ^ j) = norm s x := by
  induction j generalizing x with
  | zero => simp
  | succ j ih => rw [← Nat.add_assoc, Int.pow_succ, ← Int.mul_assoc, norm_up, ih]
/-- What is normal has one form. -/
theorem norm_fix (s k : Nat) (n : Int) (hk : k ≤ s) (hn : k = 0 ∨ n % 10 ≠ 0) : norm s (n * 10 ^ (s - k)) = (n, k) := by
  have h := norm_ups k (s - k) n
  rw [show k + (s - k) = s by omega] at h
  rw [h]
  cases k with
  | zero => rfl
  | succ k => unfold norm; rw [if_neg (by omega)]
theorem norm_le (s : Nat) : ∀ x b : Int, -b ≤ x → x ≤ b → -b ≤ (norm s x).1 ∧ (norm s x).1 ≤ b := by
  induction s with
  | zero => intro x b h1 h2; exact ⟨h1, h2⟩
  | succ s ih =>
    intro x b h1 h2
    unfold norm
    by_cases h : x % 10 = 0
    · rw [if_pos h]; exact ih _ _ (by omega) (by omega)
    · rw [if_neg h]; exact ⟨h1, h2⟩
theorem norm_sign (s : Nat) : ∀ x, ((norm s x).1 < 0 ↔ x < 0) ∧ ((norm s x).1 = 0 ↔ x = 0) := by
  induction s with
  | zero => intro x; exact ⟨Iff.rfl, Iff.rfl⟩
  | succ s ih =>
    intro x
    unfold norm
    by_cases h : x % 10 = 0
    · rw [if_pos h]; have := ih (x / 10); omega
    · rw [if_neg h]; exact ⟨Iff.rfl, Iff.rfl⟩

theorem fit_eq (x : Int) (s : Nat) (hs : s ≤ 9) : fitZ x s = if -999999999999999999 ≤ (norm s x).1 ∧ (norm s x).1 ≤ 999999999999999999 then some (norm s x) else none := by
  have e : cut x s = x := by unfold cut; rw [if_neg (by omega)]
  unfold fitZ
  rw [e, show min s 9 = s by omega]
theorem fit_low (x : Int) (s : Nat) (hs : s ≤ 9) : fitZ x s = fitZ (x * 10 ^ (9 - s)) 9 := by
  have h := norm_ups s (9 - s) x
  rw [show s + (9 - s) = 9 by omega] at h
  rw [fit_eq x s hs, fit_eq _ 9 (by omega), h]
/-- What fits, by its value. -/
theorem fit9_some (v n : Int) (k : Nat) : fitZ v 9 = some (n, k) ↔ RightZ n k ∧ v9 n k = v := by
  rw [fit_eq _ 9 (by omega)]
  unfold RightZ v9
  constructor
  · intro h
    by_cases hb : -999999999999999999 ≤ (norm 9 v).1 ∧ (norm 9 v).1 ≤ 999999999999999999
    · rw [if_pos hb] at h
      have e : norm 9 v = (n, k) := by injection h
      have := norm_spec 9 v
      rw [e] at this hb
      exact ⟨⟨hb.1, hb.2, this.1, this.2.2⟩, this.2.1⟩
    · rw [if_neg hb] at h; cases h
  · rintro ⟨⟨h1, h2, h3, h4⟩, rfl⟩
    rw [norm_fix 9 k n h3 h4, if_pos ⟨h1, h2⟩]
theorem fit_some (x n : Int) (s k : Nat) (hs : s ≤ 9) : fitZ x s = some (n, k) ↔ RightZ n k ∧ v9 n k = x * 10 ^ (9 - s) := by
  rw [fit_low x s hs]; exact fit9_some _ _ _
theorem fit_back (n : Int) (k : Nat) (h : RightZ n k) : fitZ (v9 n k) 9 = some (n, k) := (fit9_some _ _ _).2 ⟨h, rfl⟩
theorem fit_small (x : Int) (s : Nat) (hs : s ≤ 9) (h1 : -999999999999999999 ≤ x) (h2 : x ≤ 999999999999999999) : ∃ n k, fitZ x s = some (n, k) := by
  have := norm_le s x 999999999999999999 h1 h2
  rw [fit_eq _ s hs, if_pos ⟨this.1, this.2⟩]
  exact ⟨_, _, rfl⟩
theorem v9_inj (n m : Int) (k l : Nat) (h : RightZ n k) (h' : RightZ m l) : v9 n k = v9 m l ↔ n = m ∧ k = l := by
  constructor
  · intro e
    have a := fit_back n k h
    rw [e, fit_back m l h'] at a
    injection a with a; injection a with a b
    exact ⟨a.symm, b.symm⟩
  · rintro ⟨rfl, rfl⟩; rfl
theorem v9_at (n : Int) (k s : Nat) (hk : k ≤ s) (hs : s ≤ 9) : n * 10 ^ (s - k) * 10 ^ (9 - s) = v9 n k := by
  unfold v9
  rw [Int.mul_assoc, ← Int.pow_add, show s - k + (9 - s) = 9 - k by omega]
end Go.Proofs.Wide
namespace Go.Proofs.Wide
def outN (r : Option (Int × Nat)) : Int := match r with | some (n, _) => n | none => 0
def outK (r : Option (Int × Nat)) : Int := match r with | some (_, k) => k | none => 0
def outE (r : Option (Int × Nat)) : Int := match r with | some _ => 0 | none => 53
end Go.Proofs.Wide
namespace Go.Proofs.Wide
/-- What a guess of a quotient's digit keeps: never below the digit, at most two above the base, its rest at hand. -/
def Guess (y1 y0 u u1 q r : Int) : Prop := (u * 4294967296 + u1) / (y1 * 4294967296 + y0) ≤ q ∧ q ≤ 4294967297 ∧ r = u - q * y1 ∧ 0 ≤ r ∧ r < 4294967296
/-- A divisor of 64 bits with its highest bit set, a dividend's upper part below it, the next 32 bits. -/
structure Low (y1 y0 u u1 : Int) : Prop where
  a : 2147483648 ≤ y1
  b : y1 < 4294967296
  c : 0 ≤ y0
  d : y0 < 4294967296
  e : 0 ≤ u
  f : u < y1 * 4294967296 + y0
  g : 0 ≤ u1
  h : u1 < 4294967296
theorem digit_bd {y1 y0 u u1 : Int} (L : Low y1 y0 u u1) : 0 ≤ (u * 4294967296 + u1) / (y1 * 4294967296 + y0) ∧ (u * 4294967296 + u1) / (y1 * 4294967296 + y0) < 4294967296 := by
  obtain ⟨a, b, c, d, e, f, g, h⟩ := L
  constructor
  · exact Int.ediv_nonneg (by omega) (by omega)
  · exact Int.ediv_lt_of_lt_mul (by omega) (by omega)
theorem guess_first {y1 y0 u u1 : Int} (L : Low y1 y0 u u1) : Guess y1 y0 u u1 (u / y1) (u - u / y1 * y1) := by
  obtain ⟨a, b, c, d, e, f, g, h⟩ := L
  have p : 0 < y1 := by omega
  have m1 := Int.mul_ediv_add_emod u y1
  have m2 := Int.emod_nonneg u (by omega : y1 ≠ 0)
  have m3 := Int.emod_lt_of_pos u p
  rw [Int.mul_comm] at m1
  refine ⟨?_, ?_, rfl, by omega, by omega⟩
  · refine Int.le_ediv_of_mul_le p ?_
    have hQ := Int.ediv_mul_le (u * 4294967296 + u1) (by omega : y1 * 4294967296 + y0 ≠ 0)
    have hQ0 : 0 ≤ (u * 4294967296 + u1) / (y1 * 4294967296 + y0) := Int.ediv_nonneg (by omega) (by omega)
    generalize (u * 4294967296 + u1) / (y1 * 4294967296 + y0) = Q at *
    rw [Int.mul_add, ← Int.mul_assoc] at hQ
    have := Int.mul_nonneg hQ0 c
    omega
  · generalize u / y1 = q at *
    by_cases hq : q ≤ 4294967297
    · exact hq
    · have : 4294967298 * y1 ≤ q * y1 := Int.mul_le_mul_of_nonneg_right (by omega) (by omega)
      omega
theorem guess_bounds {y1 y0 u u1 q r : Int} (L : Low y1 y0 u u1) (G : Guess y1 y0 u u1 q r) : 0 ≤ q ∧ 0 ≤ q * y0 ∧ q * y0 < 18446744073709551616 ∧ 0 ≤ 4294967296 * r ∧ 4294967296 * r + u1 < 18446744073709551616 := by
  have hb := digit_bd L
  obtain ⟨a, b, c, d, e, f, g, h⟩ := L
  obtain ⟨g1, g2, g3, g4, g5⟩ := G
  have q0 : 0 ≤ q := by omega
  refine ⟨q0, Int.mul_nonneg q0 c, ?_, by omega, by omega⟩
  have : q * y0 ≤ 4294967297 * 4294967295 := Int.mul_le_mul g2 (by omega) c (by omega)
  omega
/-- The test is false: the guess is the digit. -/
theorem guess_done {y1 y0 u u1 q r : Int} (L : Low y1 y0 u u1) (G : Guess y1 y0 u u1 q r) (t : q * y0 ≤ 4294967296 * r + u1) : q = (u * 4294967296 + u1) / (y1 * 4294967296 + y0) := by
  obtain ⟨a, b, c, d, e, f, g, h⟩ := L
  obtain ⟨g1, g2, rfl, g4, g5⟩ := G
  refine Int.le_antisymm (Int.le_ediv_of_mul_le (by omega) ?_) g1
  rw [Int.mul_add, ← Int.mul_assoc]
  omega
/-- The test is true: the guess is too great. -/
theorem guess_over {y1 y0 u u1 q r : Int} (L : Low y1 y0 u u1) (G : Guess y1 y0 u u1 q r) (t : 4294967296 ≤ q ∨ 4294967296 * r + u1 < q * y0) : (u * 4294967296 + u1) / (y1 * 4294967296 + y0) ≤ q - 1 := by
  have hb := digit_bd L
  obtain ⟨a, b, c, d, e, f, g, h⟩ := L
  obtain ⟨g1, g2, rfl, g4, g5⟩ := G
  rcases t with t | t
  · omega
  · have : (u * 4294967296 + u1) / (y1 * 4294967296 + y0) < q := Int.ediv_lt_of_lt_mul (by omega) (by rw [Int.mul_add, ← Int.mul_assoc]; omega)
    omega
theorem guess_next {y1 y0 u u1 q r : Int} (L : Low y1 y0 u u1) (G : Guess y1 y0 u u1 q r) (t : 4294967296 ≤ q ∨ 4294967296 * r + u1 < q * y0) (hr : r + y1 < 4294967296) : Guess y1 y0 u u1 (q - 1) (r + y1) := by
  have ho := guess_over L G t
  obtain ⟨a, b, c, d, e, f, g, h⟩ := L
  obtain ⟨g1, g2, rfl, g4, g5⟩ := G
  exact ⟨ho, by omega, by rw [Int.sub_mul]; omega, by omega, hr⟩
theorem guess_break {y1 y0 u u1 q r : Int} (L : Low y1 y0 u u1) (G : Guess y1 y0 u u1 q r) (t : 4294967296 ≤ q ∨ 4294967296 * r + u1 < q * y0) (hr : 4294967296 ≤ r + y1) : q - 1 = (u * 4294967296 + u1) / (y1 * 4294967296 + y0) := by
  have ho := guess_over L G t
  have hb := digit_bd L
  obtain ⟨a, b, c, d, e, f, g, h⟩ := L
  obtain ⟨g1, g2, rfl, g4, g5⟩ := G
  refine Int.le_antisymm (Int.le_ediv_of_mul_le (by omega) ?_) ho
  rw [Int.mul_add, ← Int.mul_assoc, Int.sub_mul q 1 y0, Int.sub_mul q 1 y1]
  have : q * y0 ≤ 4294967297 * y0 := Int.mul_le_mul_of_nonneg_right g2 c
  omega
/-- The rest behind a digit, as the words give it. -/
theorem rest_word (u u1 y Q : Int) (h : Q = (u * 4294967296 + u1) / y) (hy : 0 < y) (hy' : y < 18446744073709551616) :
    (u * 4294967296 + u1 - Q * y) = (u * 4294967296 + u1) % y ∧ 0 ≤ (u * 4294967296 + u1) % y ∧ (u * 4294967296 + u1) % y < y := by
  subst h
  have m1 := Int.mul_ediv_add_emod (u * 4294967296 + u1) y
  rw [Int.mul_comm] at m1
  exact ⟨by omega, Int.emod_nonneg _ (by omega), Int.emod_lt_of_pos _ hy⟩
/-- Two digits make the quotient. -/
theorem two_digits (u u1 u0 y : Int) (hy : 0 < y) :
    ((u * 4294967296 + u1) / y) * 4294967296 + (((u * 4294967296 + u1) % y) * 4294967296 + u0) / y = (u * 18446744073709551616 + u1 * 4294967296 + u0) / y ∧
    (((u * 4294967296 + u1) % y) * 4294967296 + u0) % y = (u * 18446744073709551616 + u1 * 4294967296 + u0) % y := by
  have m1 := Int.mul_ediv_add_emod (u * 4294967296 + u1) y
  have e : u * 18446744073709551616 + u1 * 4294967296 + u0 = ((u * 4294967296 + u1) % y) * 4294967296 + u0 + y * ((u * 4294967296 + u1) / y * 4294967296) := by
    rw [← Int.mul_assoc]; omega
  rw [e]
  constructor
  · rw [Int.add_mul_ediv_left _ _ (by omega)]; omega
  · rw [Int.add_mul_emod_self_left]
end Go.Proofs.Wide
namespace Go.Proofs.Dig
/-- Decimal digits, the lowest first. -/
def isDig (l : List Int) : Prop := ∀ d ∈ l, 0 ≤ d ∧ d ≤ 9
def val : List Int → Int
  | [] => 0
  | d :: l => d + 10 * val l
theorem p10 (n : Nat) : (0 : Int) < 10 ^ n := Int.pow_pos (by decide)
theorem val_nonneg : ∀ l : List Int, isDig l → 0 ≤ val l
  | [], _ => by simp [val]
  | d :: l, h => by
    have h1 := h d (by simp)
    have h2 := val_nonneg l fun x hx => h x (by simp [hx])
    unfold val; omega
theorem val_lt : ∀ l : List Int, isDig l → val l < 10 ^ l.length
  | [], _ => by simp [val]
  | d :: l, h => by
    have h1 := h d (by simp)
    have h2 := val_lt l fun x hx => h x (by simp [hx])
    rw [List.length_cons, Int.pow_succ]
    unfold val; omega
theorem val_append : ∀ a b : List Int, val (a ++ b) = val a + 10 ^ a.length * val b
  | [], b => by simp [val]
  | d :: a, b => by
    rw [List.cons_append, List.length_cons, Int.pow_succ]
    show d + 10 * val (a ++ b) = d + 10 * val a + 10 ^ a.length * 10 * val b
    rw [val_append a b, Int.mul_add, ← Int.mul_assoc, Int.mul_comm 10 (10 ^ a.length)]
    omega
theorem val_zeros (n : Nat) : val (List.replicate n 0) = 0 := by
  induction n with
  | zero => rfl
  | succ n ih => rw [List.replicate_succ]; unfold val; rw [ih]; rfl
theorem isDig_append {a b : List Int} (ha : isDig a) (hb : isDig b) : isDig (a ++ b) := by
  intro d hd
  rcases List.mem_append.1 hd with h | h
  · exact ha d h
  · exact hb d h
theorem isDig_zeros (n : Nat) : isDig (List.replicate n 0) := by
  intro d hd; rw [List.eq_of_mem_replicate hd]; omega
theorem isDig_take {l : List Int} (h : isDig l) (n : Nat) : isDig (l.take n) := fun d hd => h d (List.mem_of_mem_take hd)
theorem isDig_drop {l : List Int} (h : isDig l) (n : Nat) : isDig (l.drop n) := fun d hd => h d (List.mem_of_mem_drop hd)
/-- Without noughts at the end. -/
def Canon (l : List Int) : Prop := isDig l ∧ (l = [] ∨ 10 ^ (l.length - 1) ≤ val l)
/-- Of two rows in form the value tells the length, and all. -/
theorem canon_len {a b : List Int} (ha : Canon a) (hb : isDig b) (hv : val a ≤ val b) : a.length ≤ b.length := by
  rcases ha.2 with h | h
  · subst h; simp
  · have hlt := val_lt b hb
    rcases Nat.lt_or_ge b.length a.length with hl | hl
    · have e : (10 : Int) ^ b.length ≤ 10 ^ (a.length - 1) := by
        have x : (10 : Nat) ^ b.length ≤ 10 ^ (a.length - 1) := Nat.pow_le_pow_right (by decide) (by omega)
        have e1 : (((10 : Nat) ^ b.length : Nat) : Int) = 10 ^ b.length := by simp
        have e2 : (((10 : Nat) ^ (a.length - 1) : Nat) : Int) = 10 ^ (a.length - 1) := by simp
        rw [← e1, ← e2]; exact Int.ofNat_le.2 x
      omega
    · exact hl
theorem dig_inj : ∀ a b : List Int, isDig a → isDig b → a.length = b.length → val a = val b → a = b
  | [], [], _, _, _, _ => rfl
  | d :: a, e :: b, ha, hb, hl, hv => by
    have h1 := ha d (by simp)
    have h2 := hb e (by simp)
    unfold val at hv
    have hde : d = e := by omega
    subst hde
    rw [dig_inj a b (fun x hx => ha x (by simp [hx])) (fun x hx => hb x (by simp [hx])) (by simpa using hl) (by omega)]
theorem canon_inj {a b : List Int} (ha : Canon a) (hb : Canon b) (hv : val a = val b) : a = b :=
  dig_inj a b ha.1 hb.1 (Nat.le_antisymm (canon_len ha hb.1 (by omega)) (canon_len hb ha.1 (by omega))) hv
/-- The digits of a number. -/
def digs (u : Nat) : List Int := if h : u = 0 then [] else ((u % 10 : Nat) : Int) :: digs (u / 10)
termination_by u
decreasing_by omega
theorem digs_zero : digs 0 = [] := by unfold digs; simp
theorem digs_pos {u : Nat} (h : u ≠ 0) : digs u = ((u % 10 : Nat) : Int) :: digs (u / 10) := by
  conv => lhs; unfold digs
  rw [dif_neg h]
theorem digs_val (u : Nat) : val (digs u) = u ∧ isDig (digs u) ∧ (u ≠ 0 → 10 ^ ((digs u).length - 1) ≤ val (digs u)) := by
  induction u using Nat.strongRecOn with
  | _ u ih =>
    by_cases h : u = 0
    · subst h; rw [digs_zero]; exact ⟨rfl, fun d hd => (by cases hd), fun h => absurd rfl h⟩
    · obtain ⟨a, b, c⟩ := ih (u / 10) (by omega)
      rw [digs_pos h]
      refine ⟨?_, ?_, fun _ => ?_⟩
      · unfold val; rw [a]; omega
      · intro d hd
        rcases List.mem_cons.1 hd with rfl | hd
        · omega
        · exact b d hd
      · rw [List.length_cons, Nat.add_sub_cancel]
        unfold val
        by_cases h0 : u / 10 = 0
        · rw [h0, digs_zero]; simp [val]; omega
        · have hc := c h0
          have hl : (digs (u / 10)).length = (digs (u / 10)).length - 1 + 1 := by
            rw [digs_pos h0, List.length_cons]; omega
          rw [hl, Int.pow_succ]
          omega
theorem digs_canon (u : Nat) : Canon (digs u) := by
  obtain ⟨_, b, c⟩ := digs_val u
  refine ⟨b, ?_⟩
  by_cases h : u = 0
  · left; rw [h, digs_zero]
  · exact .inr (c h)
theorem canon_digs {l : List Int} (h : Canon l) : l = digs (val l).toNat :=
  canon_inj h (digs_canon _) (by rw [(digs_val _).1]; have := val_nonneg l h.1; omega)
/-- Struck off at the end. -/
def trimL (l : List Int) : List Int := (l.reverse.dropWhile (· == 0)).reverse
theorem trim_snoc_zero (l : List Int) : trimL (l ++ [0]) = trimL l := by
  unfold trimL
  rw [List.reverse_append]
  rfl
theorem trim_snoc (l : List Int) (d : Int) (h : d ≠ 0) : trimL (l ++ [d]) = l ++ [d] := by
  unfold trimL
  rw [List.reverse_append]
  have : (([d] : List Int).reverse ++ l.reverse).dropWhile (· == 0) = [d].reverse ++ l.reverse := by
    show (d :: l.reverse).dropWhile (· == 0) = _
    rw [List.dropWhile_cons]
    simp [h]
  rw [this]
  simp
theorem trim_spec (l : List Int) (h : isDig l) : Canon (trimL l) ∧ val (trimL l) = val l ∧ (trimL l).length ≤ l.length ∧ trimL l = l.take (trimL l).length := by
  have key : ∀ n, ∀ l : List Int, l.length = n → isDig l → Canon (trimL l) ∧ val (trimL l) = val l ∧ (trimL l).length ≤ l.length ∧ trimL l = l.take (trimL l).length := by
    intro n
    induction n with
    | zero => intro l hl _; obtain rfl := List.eq_nil_of_length_eq_zero hl; exact ⟨⟨fun d hd => (by cases hd), .inl rfl⟩, rfl, Nat.le_refl _, rfl⟩
    | succ n ih =>
      intro l hl hd
      have hne : l ≠ [] := by intro e; rw [e] at hl; cases hl
      obtain ⟨m, d, rfl⟩ : ∃ m d, l = m ++ [d] := ⟨l.dropLast, l.getLast hne, (List.dropLast_concat_getLast hne).symm⟩
      have hm : m.length = n := by simpa using hl
      have hdm : isDig m := fun x hx => hd x (by simp [hx])
      by_cases h0 : d = 0
      · subst h0
        rw [trim_snoc_zero]
        obtain ⟨a, b, c, e⟩ := ih m hm hdm
        refine ⟨a, by rw [b, val_append]; simp [val], by simp; omega, ?_⟩
        rw [List.take_append_of_le_length c]; exact e
      · rw [trim_snoc m d h0]
        have hdd := hd d (by simp)
        refine ⟨⟨hd, .inr ?_⟩, rfl, Nat.le_refl _, (List.take_length).symm⟩
        rw [val_append, List.length_append]
        simp only [List.length_cons, List.length_nil, Nat.zero_add, Nat.add_sub_cancel]
        have hv := val_nonneg m hdm
        have : (10 : Int) ^ m.length * 1 ≤ 10 ^ m.length * val [d] := Int.mul_le_mul_of_nonneg_left (by simp [val]; omega) (Int.le_of_lt (p10 _))
        omega
  exact key l.length l rfl h
end Go.Proofs.Dig
namespace Go.Proofs.Dig
theorem take_val (a : List Int) (i : Nat) : val (a.take (i + 1)) = val (a.take i) + 10 ^ i * a.getD i 0 := by
  by_cases h : i < a.length
  · rw [List.take_add_one, List.getElem?_eq_getElem h, val_append, List.length_take, Nat.min_eq_left (Nat.le_of_lt h)]
    simp [val, h]
  · rw [List.take_of_length_le (by omega), List.take_of_length_le (by omega)]
    simp [List.getD, List.getElem?_eq_none (by omega : a.length ≤ i)]
theorem getD_dig {a : List Int} (h : isDig a) (i : Nat) : 0 ≤ a.getD i 0 ∧ a.getD i 0 ≤ 9 := by
  by_cases hi : i < a.length
  · rw [List.getD_eq_getElem?_getD, List.getElem?_eq_getElem hi]; exact h _ (List.getElem_mem hi)
  · rw [List.getD_eq_getElem?_getD, List.getElem?_eq_none (by omega)]; simp
theorem isDig_snoc {l : List Int} {d : Int} (h : isDig l) (h0 : 0 ≤ d) (h9 : d ≤ 9) : isDig (l ++ [d]) := isDig_append h fun x hx => by simp at hx; subst hx; exact ⟨h0, h9⟩
theorem val_snoc (l : List Int) (d : Int) : val (l ++ [d]) = val l + 10 ^ l.length * d := by rw [val_append]; simp [val]
/-- What adding digit by digit keeps. -/
def PlusI (a b out : List Int) (c : Int) : Prop := isDig out ∧ 0 ≤ c ∧ c ≤ 1 ∧ val out + 10 ^ out.length * c = val (a.take out.length) + val (b.take out.length)
theorem plus_start (a b : List Int) : PlusI a b [] 0 := ⟨fun d hd => (by cases hd), by decide, by decide, by simp [val]⟩
theorem plus_step {a b out : List Int} {c : Int} (ha : isDig a) (hb : isDig b) (h : PlusI a b out c) :
    PlusI a b (out ++ [(c + a.getD out.length 0 + b.getD out.length 0) % 10]) ((c + a.getD out.length 0 + b.getD out.length 0) / 10) := by
  obtain ⟨h1, h2, h3, h4⟩ := h
  have x := getD_dig ha out.length
  have y := getD_dig hb out.length
  refine ⟨isDig_snoc h1 (by omega) (by omega), by omega, by omega, ?_⟩
  rw [val_snoc, List.length_append, List.length_cons, List.length_nil, Nat.zero_add, take_val, take_val, Int.pow_succ]
  generalize a.getD out.length 0 = p at *
  generalize b.getD out.length 0 = q at *
  generalize val (a.take out.length) = u at *
  generalize val (b.take out.length) = v at *
  have e : c + p + q = (c + p + q) % 10 + 10 * ((c + p + q) / 10) := by omega
  have e2 : (10 : Int) ^ out.length * (c + p + q) = 10 ^ out.length * ((c + p + q) % 10) + 10 ^ out.length * 10 * ((c + p + q) / 10) := by
    conv => lhs; rw [e, Int.mul_add]
    rw [Int.mul_assoc (10 ^ out.length) 10]
  rw [Int.mul_add, Int.mul_add] at e2
  omega
theorem plus_end {a b out : List Int} (h : PlusI a b out 0) (ha : a.length ≤ out.length) (hb : b.length ≤ out.length) : isDig out ∧ val out = val a + val b := by
  obtain ⟨h1, _, _, h4⟩ := h
  rw [List.take_of_length_le ha, List.take_of_length_le hb] at h4
  exact ⟨h1, by simpa using h4⟩
/-- What taking away digit by digit keeps. -/
def MinusI (a b out : List Int) (c : Int) : Prop := isDig out ∧ 0 ≤ c ∧ c ≤ 1 ∧ val out = val (a.take out.length) - val (b.take out.length) + 10 ^ out.length * c
theorem minus_start (a b : List Int) : MinusI a b [] 0 := ⟨fun d hd => (by cases hd), by decide, by decide, by simp [val]⟩
theorem minus_low {a b out : List Int} {c : Int} (ha : isDig a) (hb : isDig b) (h : MinusI a b out c) (hs : a.getD out.length 0 - c - b.getD out.length 0 < 0) :
    MinusI a b (out ++ [a.getD out.length 0 - c - b.getD out.length 0 + 10]) 1 := by
  obtain ⟨h1, h2, h3, h4⟩ := h
  have x := getD_dig ha out.length
  have y := getD_dig hb out.length
  refine ⟨isDig_snoc h1 (by omega) (by omega), by omega, by omega, ?_⟩
  rw [val_snoc, List.length_append, List.length_cons, List.length_nil, Nat.zero_add, take_val, take_val, Int.pow_succ, h4]
  simp only [Int.mul_add, Int.mul_sub]
  omega
theorem minus_high {a b out : List Int} {c : Int} (ha : isDig a) (hb : isDig b) (h : MinusI a b out c) (hs : ¬ a.getD out.length 0 - c - b.getD out.length 0 < 0) :
    MinusI a b (out ++ [a.getD out.length 0 - c - b.getD out.length 0]) 0 := by
  obtain ⟨h1, h2, h3, h4⟩ := h
  have x := getD_dig ha out.length
  have y := getD_dig hb out.length
  refine ⟨isDig_snoc h1 (by omega) (by omega), by omega, by omega, ?_⟩
  rw [val_snoc, List.length_append, List.length_cons, List.length_nil, Nat.zero_add, take_val, take_val, Int.pow_succ, h4]
  simp only [Int.mul_sub]
  omega
theorem minus_end {a b out : List Int} {c : Int} (h : MinusI a b out c) (hl : out.length = a.length) (hb : b.length ≤ a.length) (hge : val b ≤ val a) : isDig out ∧ val out = val a - val b := by
  obtain ⟨h1, h2, h3, h4⟩ := h
  have hlt := val_lt out h1
  rw [List.take_of_length_le (by omega), List.take_of_length_le (by omega)] at h4
  have : c = 0 := by
    rcases Int.lt_or_eq_of_le h2 with h | h
    · have : c = 1 := by omega
      subst this; omega
    · exact h.symm
  subst this
  exact ⟨h1, by simpa using h4⟩
/-- A row parted at a place. -/
theorem val_part (a : List Int) (i : Nat) (h : i < a.length) : val a = val (a.take i) + 10 ^ i * (a.getD i 0 + 10 * val (a.drop (i + 1))) := by
  conv => lhs; rw [← List.take_append_drop i a]
  rw [val_append, List.length_take, Nat.min_eq_left (Nat.le_of_lt h), List.drop_eq_getElem_cons h]
  simp [val, h]
theorem cmp_at {a b : List Int} (ha : isDig a) (hb : isDig b) {i : Nat} (hi : i < a.length) (hj : i < b.length) (he : a.drop (i + 1) = b.drop (i + 1)) (hlt : a.getD i 0 < b.getD i 0) : val a < val b := by
  rw [val_part a i hi, val_part b i hj, he]
  have x := val_lt _ (isDig_take ha i)
  have y := val_nonneg _ (isDig_take hb i)
  rw [List.length_take, Nat.min_eq_left (Nat.le_of_lt hi)] at x
  generalize a.getD i 0 = p at *
  generalize b.getD i 0 = q at *
  have : (10 : Int) ^ i * (p + 1) ≤ 10 ^ i * q := Int.mul_le_mul_of_nonneg_left (by omega) (Int.le_of_lt (p10 _))
  simp only [Int.mul_add, Int.mul_one] at this ⊢
  omega
theorem cmp_len {a b : List Int} (ha : isDig a) (hb : Canon b) (h : a.length < b.length) : val a < val b := by
  rcases Int.lt_or_le (val a) (val b) with h1 | h1
  · exact h1
  · have := canon_len hb ha h1; omega
/-- Sums of rows in form are in form. -/
theorem plus_canon {a b out : List Int} (ha : Canon a) (hb : Canon b) (ho : isDig out) (hv : val out = val a + val b) (hl : out.length ≤ a.length ∨ out.length ≤ b.length ∨ 10 ^ (out.length - 1) ≤ val out) : Canon out := by
  refine ⟨ho, ?_⟩
  by_cases hn : out = []
  · exact .inl hn
  · right
    have va := val_nonneg a ha.1
    have vb := val_nonneg b hb.1
    have mono : ∀ m : Nat, out.length ≤ m → (10 : Int) ^ (out.length - 1) ≤ 10 ^ (m - 1) := fun m hm => by
      have x : (10 : Nat) ^ (out.length - 1) ≤ 10 ^ (m - 1) := Nat.pow_le_pow_right (by decide) (by omega)
      have e1 : (((10 : Nat) ^ (out.length - 1) : Nat) : Int) = 10 ^ (out.length - 1) := by simp
      have e2 : (((10 : Nat) ^ (m - 1) : Nat) : Int) = 10 ^ (m - 1) := by simp
      rw [← e1, ← e2]; exact Int.ofNat_le.2 x
    have hpos : 0 < out.length := by cases out with
      | nil => exact absurd rfl hn
      | cons _ _ => simp
    rcases hl with h | h | h
    · rcases ha.2 with h' | h'
      · subst h'; simp at h; exact absurd h hn
      · have := mono _ h; omega
    · rcases hb.2 with h' | h'
      · subst h'; simp at h; exact absurd h hn
      · have := mono _ h; omega
    · exact h
end Go.Proofs.Dig
namespace Go
section
variable {P : Program} {ops : Array Oper} {Q : Exit → Act → World → Prop} {md : Region.Mode}
theorem countP_lt {p p' : Nat → Bool} {i : Nat} : ∀ {L : List Nat}, (∀ x, p' x = true → p x = true) → i ∈ L → p i = true → p' i = false → L.countP p' < L.countP p := by
  intro L h hi hp hp'
  have mono : ∀ L : List Nat, L.countP p' ≤ L.countP p := fun L => List.countP_mono_left fun x _ => h x
  induction L with
  | nil => cases hi
  | cons x L ih =>
    rw [List.countP_cons, List.countP_cons]
    rcases List.mem_cons.1 hi with rfl | hi
    · have := mono L; simp [hp, hp']; omega
    · have := ih hi
      by_cases hx : p' x = true
      · simp [hx, h x hx]; omega
      · simp [hx]; omega
/-- How many operations have not come up. -/
def left (ops : Array Oper) (listed : Array Bool) : Nat := (List.range ops.size).countP fun j => !listed.getD j true
theorem left_step {i : Nat} {listed : Array Bool} (hi : i < ops.size) (h : listed.getD i true = false) : left ops (listed.setIfInBounds i true) < left ops listed := by
  refine countP_lt (i := i) (fun x hx => ?_) (List.mem_range.2 hi) (by simp only [h]; rfl) ?_
  · by_cases hxi : i = x
    · subst hxi; simp only [h]; rfl
    · rw [getD_set_ne true hxi] at hx; exact hx
  · rcases Nat.lt_or_ge i listed.size with h' | h'
    · simp [h']
    · simp [Array.getElem?_eq_none h'] at h
/-- AN INVARIANT THROUGH A REGION THAT DRAWS ITS ORDER: whatever has come up, the invariant of what has come up holds; each operation that may come up keeps it. -/
theorem wpAny_inv {I : Array Bool → Act → World → Prop}
    (hstep : ∀ (i : Nat) (o : Oper) (listed : Array Bool) (a : Act) (w : World), ops[i]? = some o → (∀ e ∈ o.after, Region.binds md e = true → listed.getD e.on false = true) → listed.getD i true = false → I listed a w →
      wpOp P ops Q i (fun a' w' => I (listed.setIfInBounds i true) a' w') a w)
    (hend : ∀ (listed : Array Bool) (a : Act) (w : World), Region.ready md ops listed = [] → I listed a w → Q .normal a w) :
    ∀ (fuel : Nat) (listed : Array Bool) (a : Act) (w : World), left ops listed ≤ fuel → I listed a w → wpAny P md ops Q fuel listed a w := by
  intro fuel
  induction fuel with
  | zero =>
    intro listed a w hl hI
    have hr : Region.ready md ops listed = [] := by
      cases h : Region.ready md ops listed with
      | nil => rfl
      | cons i r =>
        have hi : i ∈ Region.ready md ops listed := by rw [h]; exact List.mem_cons_self
        obtain ⟨h1, o, ho, _⟩ := mem_ready.1 hi
        have := left_step (ops := ops) (Array.getElem?_eq_some_iff.1 ho).1 h1
        omega
    exact ⟨hr, hend _ _ _ hr hI⟩
  | succ fuel ih =>
    intro listed a w hl hI
    refine ⟨fun hr => hend _ _ _ hr hI, fun i hi => ?_⟩
    obtain ⟨h1, o, ho, hd⟩ := mem_ready.1 hi
    have := left_step (ops := ops) (Array.getElem?_eq_some_iff.1 ho).1 h1
    exact wpOp_mono (fun a' w' hI' => ih _ _ _ (by omega) hI') (hstep i o listed a w ho hd h1 hI)
/-- Each operation waits for earlier ones alone. -/
def forward (md : Region.Mode) (ops : Array Oper) : Bool :=
  (List.range ops.size).all fun j => ((ops[j]?).map fun o => o.after.all fun e => !Region.binds md e || decide (e.on < j)).getD true
theorem all_listed (hf : forward md ops = true) {listed : Array Bool} (hr : Region.ready md ops listed = []) (hs : listed.size = ops.size) : ∀ j, j < ops.size → listed.getD j false = true := by
  intro j
  induction j using Nat.strongRecOn with
  | _ j ih =>
    intro hj
    cases h : listed.getD j true with
    | true =>
      have hj' : j < listed.size := by omega
      simp [hj'] at h ⊢
      exact h
    | false =>
      have hj2 : ops[j]? = some ops[j] := Array.getElem?_eq_getElem hj
      have hfj := List.all_eq_true.1 hf j (List.mem_range.2 hj)
      rw [hj2] at hfj
      have hmem : j ∈ Region.ready md ops listed := mem_ready.2 ⟨h, _, hj2, fun e he hb => by
        have h3 := Array.all_eq_true'.1 hfj e he
        simp only [hb, Bool.not_true, Bool.false_or, decide_eq_true_eq] at h3
        exact ih e.on h3 (by omega)⟩
      rw [hr] at hmem; cases hmem
theorem wp_region_inv {id : Nat} {a : Act} {w : World} (hm : P.follows .mixedOrders = true) (hf : forward .any ops = true) (I : Array Bool → Act → World → Prop)
    (h0 : I (Array.replicate ops.size false) a w.drew)
    (hstep : ∀ (i : Nat) (o : Oper) (listed : Array Bool) (a : Act) (w : World), i < ops.size → ops[i]? = some o → (∀ e ∈ o.after, Region.binds .any e = true → listed.getD e.on false = true) → listed.getD i true = false → I listed a w →
      wpOp P ops Q i (fun a' w' => I (listed.setIfInBounds i true) a' w') a w)
    (hend : ∀ (listed : Array Bool) (a : Act) (w : World), (∀ j, j < ops.size → listed.getD j false = true) → I listed a w → Q .normal a w) : (Code.region id ops true).wp P Q a w := by
  refine wp_region_any hm (wpAny_inv (I := fun l a w => l.size = ops.size ∧ I l a w) ?_ ?_ ops.size _ a _ ?_ ⟨by simp, h0⟩)
  · intro i o listed a w ho hd hn ⟨hs, hI⟩
    exact wpOp_mono (fun a' w' h => ⟨by simpa using hs, h⟩) (hstep i o listed a w (Array.getElem?_eq_some_iff.1 ho).1 ho hd hn hI)
  · intro listed a w hr ⟨hs, hI⟩
    exact hend listed a w (all_listed hf hr hs) hI
  · unfold left
    refine Nat.le_trans (List.countP_le_length) (by simp)
/-- What has come up besides. -/
theorem ls {listed : Array Bool} {i j : Nat} (hne : i ≠ j) (h : (listed.setIfInBounds i true).getD j false = true) : listed.getD j false = true := by
  rw [getD_set_ne false hne] at h; exact h
theorem lc {listed : Array Bool} {i : Nat} {p : Prop} (hn : listed.getD i true = false) (h : listed.getD i false = true) : p := by
  rcases Nat.lt_or_ge i listed.size with h' | h'
  · simp [h'] at hn h; rw [h] at hn; cases hn
  · simp [Array.getElem?_eq_none h'] at h
theorem la {listed : Array Bool} {i j : Nat} (h : listed.getD j false = true) : (listed.setIfInBounds i true).getD j false = true := getD_set_true h
theorem lself {listed : Array Bool} {i : Nat} (hn : listed.getD i true = false) : (listed.setIfInBounds i true).getD i false = true := by
  rcases Nat.lt_or_ge i listed.size with h' | h'
  · simp [h']
  · simp [Array.getElem?_eq_none h'] at hn
theorem lf {listed : Array Bool} {i : Nat} (hn : listed.getD i true = false) : listed.getD i false = false := by
  cases h : listed.getD i false with
  | false => rfl
  | true => exact lc hn h
theorem ln {listed : Array Bool} {i j : Nat} (hn : listed.getD i true = false) (h : listed.getD j false = true → listed.getD i false = true) : listed.getD j false = false := by
  cases h' : listed.getD j false with
  | false => rfl
  | true => exact lc hn (h h')
theorem lsf {listed : Array Bool} {i j : Nat} (hne : i ≠ j) (h : (listed.setIfInBounds i true).getD j false = false) : listed.getD j false = false := by
  rw [getD_set_ne false hne] at h; exact h
theorem lx {listed : Array Bool} {i : Nat} {p : Prop} (hn : listed.getD i true = false) (h : (listed.setIfInBounds i true).getD i false = false) : p := by
  rw [lself hn] at h; cases h
theorem l0 {n j : Nat} : ¬ (Array.replicate n false).getD j false = true := by
  simp [Array.getElem?_replicate]; split <;> simp
end

/-- A block of two cells that the call may store to. -/
def Own (w : World) (g : Nat) (u v : Value) : Prop := w.cell? ⟨g, 0, none⟩ = some u ∧ w.cell? ⟨g, 1, none⟩ = some v ∧ w.frozen? ⟨g, 0, none⟩ = false ∧ w.frozen? ⟨g, 1, none⟩ = false
section
open Go.RowKit
variable {w w' : World} {g : Nat} {u v : Value}
theorem Own.lt (h : Own w g u v) : g < w.heap.size := World.block_lt_of_cell? w ⟨g, 0, none⟩ h.1
theorem Own.call (h : Own w g u v) (hb : Below w.heap.size w w') : Own w' g u v :=
  ⟨(hb.cell (p := ⟨g, 0, none⟩) h.lt).trans h.1, (hb.cell (p := ⟨g, 1, none⟩) h.lt).trans h.2.1, (hb.frozen (p := ⟨g, 0, none⟩) h.lt).trans h.2.2.1, (hb.frozen (p := ⟨g, 1, none⟩) h.lt).trans h.2.2.2⟩
theorem Own.alloc (h : Own w g u v) (o : Obj) : Own (w.alloc o) g u v :=
  h.call ((Below.refl _ _).alloc (Nat.le_refl _) _)
theorem Own.drew (h : Own w g u v) : Own w.drew g u v := h
theorem Own.drewN (h : Own w g u v) (n : Nat) : Own (w.drewN n) g u v := h
theorem Own.set_ (h : Own w g u v) {p : Addr} {x : Value} (hne : p.block ≠ g) : Own (w.setCell p x) g u v :=
  ⟨(World.cell?_setCell_other w p _ x (fun e => hne (by rw [e]))).trans h.1, (World.cell?_setCell_other w p _ x (fun e => hne (by rw [e]))).trans h.2.1,
    (by simpa using h.2.2.1), (by simpa using h.2.2.2)⟩
theorem Own.new (w : World) (u v : Value) (t : TypeId) : Own (w.alloc (.cells #[u, v] t)) w.heap.size u v := by
  refine ⟨?_, ?_, ?_, ?_⟩ <;> simp [World.cell?_alloc_new, World.frozen?_alloc_new]
theorem Own.new_at {t : TypeId} (hg : g = w.heap.size) : Own (w.alloc (.cells #[u, v] t)) g u v := by subst hg; exact Own.new _ _ _ _
theorem Own.store (h : Own w g u v) (a b : Value) : Own ((w.setCell ⟨g, 0, none⟩ a).setCell ⟨g, 1, none⟩ b) g a b := by
  have e0 : (w.setCell ⟨g, 0, none⟩ a).cell? ⟨g, 0, none⟩ = some a := World.cell?_setCell_same _ _ _ h.1
  have e1 : (w.setCell ⟨g, 0, none⟩ a).cell? ⟨g, 1, none⟩ = some v := (World.cell?_setCell_other _ _ _ _ (by simp)).trans h.2.1
  exact ⟨(World.cell?_setCell_other _ _ _ _ (by simp)).trans e0, World.cell?_setCell_same _ _ _ e1, by simpa using h.2.2.1, by simpa using h.2.2.2⟩
end
end Go
namespace Go
open Go.RowKit
theorem block_of_add (a : Addr) (n : Nat) : (a.add n).block = a.block := by unfold Addr.add; split <;> rfl
def Reads (w : World) (B size : Nat) (A : Option Addr) (n : Nat) (xs : List Value) : Prop :=
  xs.length = n * size ∧ (0 < n → ∃ ad, A = some ad ∧ ad.block < B ∧ ∀ j u, xs[j]? = some u → w.cell? (ad.add j) = some u)

section
variable {w w' : World} {B B' size n : Nat} {A : Option Addr} {xs : List Value}
theorem Reads.keep (h : Reads w B size A n xs) (hk : ∀ p : Addr, p.block < B → w'.cell? p = w.cell? p) : Reads w' B size A n xs :=
  ⟨h.1, fun hn => by
    obtain ⟨ad, e, hb, hc⟩ := h.2 hn
    exact ⟨ad, e, hb, fun j u hu => (hk _ (by rw [block_of_add]; exact hb)).trans (hc j u hu)⟩⟩
theorem Reads.more (h : Reads w B size A n xs) (hB : B ≤ B') : Reads w B' size A n xs :=
  ⟨h.1, fun hn => by
    obtain ⟨ad, e, hb, hc⟩ := h.2 hn
    exact ⟨ad, e, by omega, hc⟩⟩
theorem Reads.below (h : Reads w B size A n xs) (hb : Below B w w') : Reads w' B size A n xs := h.keep fun _ hp => hb.cell hp
theorem Reads.alloc (h : Reads w B size A n xs) (hB : B ≤ w.heap.size) (o : Obj) : Reads (w.alloc o) B size A n xs := h.keep fun p hp => World.cell?_alloc_lt w o p (by omega)
theorem Reads.setCell (h : Reads w B size A n xs) {p : Addr} (hB : B ≤ p.block) (u : Value) : Reads (w.setCell p u) B size A n xs :=
  h.keep fun q hq => World.cell?_setCell_other w p q u (fun e => by subst e; omega)
end
section
variable {P : Program} (w : World)

theorem run_append_of_nil (base : Nat) (t ty e : TypeId) (i : TypeInfo) (size : Nat) (ht : P.underlying t = some (.slice e)) (hi : P.info? e = some i)
    (v : Value) (n : Nat) (xs : List Value) (hown : w.ownsRow base e size v n xs) (c : Nat) : (Builtin.append_ #[t, t] ty #[v, .slice none 0 c]).run P w = .ok v w := by
  rcases hown.2 with ⟨rfl, rfl⟩ | ⟨g, cap, cur, rfl, _, _, hnc, _⟩
  · simp [Builtin.append_, run_underlying ht, sizeOf, typeInfo, hi, Builtin.lenOf, Builtin.firstCells]
  · simp [Builtin.append_, run_underlying ht, sizeOf, typeInfo, hi, Builtin.lenOf, Builtin.firstCells, hnc, storeCells]

theorem run_append_any (base : Nat) (t ty e : TypeId) (i : TypeInfo) (z : Value) (size bytes : Nat) (ht : P.underlying t = some (.slice e)) (hi : P.info? e = some i) (hz : i.zero = some z)
    (hsize : i.size = size) (hby : i.bytes = bytes) (hzs : z.cells.size = size) (hsz : 0 < size)
    (v : Value) (n : Nat) (xs : List Value) (hown : w.ownsRow base e size v n xs)
    (B : Nat) (A : Option Addr) (m c : Nat) (news : List Value) (hr : Reads w B size A m news) (h1 : ∀ u ∈ news, u.oneCell' = true)
    (h63 : n + m ≤ maxLen) (hbytes : (n + m) * bytes ≤ 140737488355328) (hbase : base ≤ w.heap.size) :
    ∃ v' w', (Builtin.append_ #[t, t] ty #[v, .slice A m c]).run P w = .ok v' w' ∧ w'.ownsRow base e size v' (n + m) (xs ++ news) ∧ w.grownBy w' v.ownBlock ∧
      (v'.ownBlock = v.ownBlock ∨ v'.ownBlock = some w.heap.size) := by
  rcases A with _ | ad
  · have hm : m = 0 := by
      rcases Nat.eq_zero_or_pos m with h0 | h0
      · exact h0
      · obtain ⟨ad, h, _⟩ := hr.2 h0
        cases h
    subst hm
    have hn : news = [] := List.eq_nil_of_length_eq_zero (by simpa using hr.1)
    subst hn
    exact ⟨v, w, run_append_of_nil w base t ty e i size ht hi v n xs hown c, by simpa using hown, World.grownBy.refl w _, .inl rfl⟩
  · have hcells : ∀ j u, news[j]? = some u → w.cell? (ad.add j) = some u := by
      intro j u hu
      rcases Nat.eq_zero_or_pos m with h0 | h0
      · subst h0
        have hn : news = [] := List.eq_nil_of_length_eq_zero (by simpa using hr.1)
        subst hn
        simp at hu
      · obtain ⟨ad', h, _, hc⟩ := hr.2 h0
        injection h with h
        subst h
        exact hc j u hu
    obtain ⟨v', w', hrun, h2, h3, _, h5⟩ := run_append_own_at (P := P) w base t ty e i z size bytes ht hi hz hsize hby hzs hsz v n xs hown ad m c news hr.1 hcells h1 h63 hbytes hbase
    exact ⟨v', w', hrun, h2, h3, h5⟩

theorem wp_append_any {o : Oper} {a : Act} {K : Act → World → Prop} {Q : Exit → Act → World → Prop} (s x : Operand) (t : TypeId)
    (ho : o.op = .call { callee := .builtin .append, args := #[s, x], argTypes := #[t, t] })
    (base : Nat) (e : TypeId) (i : TypeInfo) (z : Value) (size bytes : Nat) (ht : P.underlying t = some (.slice e)) (hi : P.info? e = some i) (hz : i.zero = some z)
    (hsize : i.size = size) (hby : i.bytes = bytes) (hzs : z.cells.size = size) (hsz : 0 < size)
    (v : Value) (n : Nat) (xs : List Value) (hs : a.eval s = v) (hown : w.ownsRow base e size v n xs)
    (B : Nat) (A : Option Addr) (m c : Nat) (news : List Value) (hx : a.eval x = .slice A m c) (hr : Reads w B size A m news) (h1 : ∀ u ∈ news, u.oneCell' = true)
    (h63 : n + m ≤ maxLen) (hbytes : (n + m) * bytes ≤ 140737488355328) (hbase : base ≤ w.heap.size)
    (h : ∀ v' w', w'.ownsRow base e size v' (n + m) (xs ++ news) → w.grownBy w' v.ownBlock → (v'.ownBlock = v.ownBlock ∨ v'.ownBlock = some w.heap.size) → K (a.put o.dst v') w') : o.wp P a w K Q := by
  obtain ⟨v', w', hrun, h2, h3, h4⟩ := run_append_any (P := P) w base t o.type e i z size bytes ht hi hz hsize hby hzs hsz v n xs hown B A m c news hr h1 h63 hbytes hbase
  unfold Oper.wp execOp
  simp only [ho, resolve, invoke, builtin, Sem.run_bind, Sem.run_pure, Result.andThen_ok, List.map_toArray, List.map_cons, List.map_nil, hs, hx, hrun]
  exact h v' w' h2 h3 h4

theorem wpList_append_any {ops : Array Oper} {rest : List Oper} {o : Oper} {a : Act} {Q : Exit → Act → World → Prop} (hgd : o.guard = none) (s x : Operand) (t : TypeId)
    (ho : o.op = .call { callee := .builtin .append, args := #[s, x], argTypes := #[t, t] })
    (base : Nat) (e : TypeId) (i : TypeInfo) (z : Value) (size bytes : Nat) (ht : P.underlying t = some (.slice e)) (hi : P.info? e = some i) (hz : i.zero = some z)
    (hsize : i.size = size) (hby : i.bytes = bytes) (hzs : z.cells.size = size) (hsz : 0 < size)
    (v : Value) (n : Nat) (xs : List Value) (hs : a.eval s = v) (hown : w.ownsRow base e size v n xs)
    (B : Nat) (A : Option Addr) (m c : Nat) (news : List Value) (hx : a.eval x = .slice A m c) (hr : Reads w B size A m news) (h1 : ∀ u ∈ news, u.oneCell' = true)
    (h63 : n + m ≤ maxLen) (hbytes : (n + m) * bytes ≤ 140737488355328) (hbase : base ≤ w.heap.size)
    (h : ∀ v' w', w'.ownsRow base e size v' (n + m) (xs ++ news) → w.grownBy w' v.ownBlock → (v'.ownBlock = v.ownBlock ∨ v'.ownBlock = some w.heap.size) → wpList P ops Q rest (a.put o.dst v') w') : wpList P ops Q (o :: rest) a w :=
  wpList_plain hgd fun _ hK => wp_append_any w s x t ho base e i z size bytes ht hi hz hsize hby hzs hsz v n xs hs hown B A m c news hx hr h1 h63 hbytes hbase fun v' w' h2 h3 h4 => hK _ _ (h v' w' h2 h3 h4)

end
end Go
namespace Go.Proofs


def skipn : Nat → Code → Code
  | 0, c => c
  | n+1, .seq _ b => skipn n b
  | _, c => c
def regionOf (n : Nat) : Code → Option Code
  | .region id ops dr => if id = n then some (.region id ops dr) else none
  | .seq a b => match regionOf n a with
    | some c => some c
    | none => regionOf n b
  | .cond _ a b => match regionOf n a with
    | some c => some c
    | none => regionOf n b
  | .block _ c => regionOf n c
  | .loop c => regionOf n c
  | .scope c => regionOf n c
  | _ => none
end Go.Proofs
