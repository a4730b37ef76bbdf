/- Plain facts on decimal numbers: their form, what fits, their value. No condition beyond what the theorems state. -/
namespace Go.Proofs.Wide
/-- Noughts at the end are struck off, as long as there is a scale. -/
def norm : Nat → Int → Int × Nat
  | 0, x => (x, 0)
  | s + 1, x => if x % 10 = 0 then norm s (x / 10) else (x, s + 1)
/-- The digits behind the ninth are cut. -/
def cut (x : Int) (s : Nat) : Int := if 9 < s then x.tdiv (10 ^ (s - 9)) else x
/-- To fit. -/
def fitZ (x : Int) (s : Nat) : Option (Int × Nat) :=
  if -999999999999999999 ≤ (norm (min s 9) (cut x s)).1 ∧ (norm (min s 9) (cut x s)).1 ≤ 999999999999999999 then some (norm (min s 9) (cut x s)) else none
def RightZ (n : Int) (k : Nat) : Prop := -999999999999999999 ≤ n ∧ n ≤ 999999999999999999 ∧ k ≤ 9 ∧ (k = 0 ∨ n % 10 ≠ 0)
/-- The value in parts of ten to the ninth. -/
def v9 (n : Int) (k : Nat) : Int := n * 10 ^ (9 - k)

theorem pow_pos' (k : Nat) : (0 : Int) < 10 ^ k := Int.pow_pos (by decide)
theorem norm_spec (s : Nat) : ∀ x, (norm s x).2 ≤ s ∧ (norm s x).1 * 10 ^ (s - (norm s x).2) = x ∧ ((norm s x).2 = 0 ∨ (norm s x).1 % 10 ≠ 0) := by
  induction s with
  | zero => intro x; simp [norm]
  | succ s ih =>
    intro x
    unfold norm
    by_cases h : x % 10 = 0
    · rw [if_pos h]
      obtain ⟨a, b, c⟩ := ih (x / 10)
      refine ⟨by omega, ?_, c⟩
      rw [show s + 1 - (norm s (x / 10)).2 = (s - (norm s (x / 10)).2) + 1 by omega, Int.pow_succ, ← Int.mul_assoc, b]
      omega
    · rw [if_neg h]; simp [h]
theorem norm_up (s : Nat) (x : Int) : norm (s + 1) (x * 10) = norm s x := by
  unfold norm
  rw [if_pos (by omega), show x * 10 / 10 = x by omega]
  cases s <;> rfl
theorem norm_ups (s j : Nat) (x : Int) : norm (s + j) (x * 10 ^ j) = norm s x := by
  induction j generalizing x with
  | zero => simp
  | succ j ih => rw [← Nat.add_assoc, Int.pow_succ, ← Int.mul_assoc, norm_up, ih]
/-- What is normal has one form. -/
theorem norm_fix (s k : Nat) (n : Int) (hk : k ≤ s) (hn : k = 0 ∨ n % 10 ≠ 0) : norm s (n * 10 ^ (s - k)) = (n, k) := by
  have h := norm_ups k (s - k) n
  rw [show k + (s - k) = s by omega] at h
  rw [h]
  cases k with
  | zero => rfl
  | succ k => unfold norm; rw [if_neg (by omega)]
theorem norm_le (s : Nat) : ∀ x b : Int, -b ≤ x → x ≤ b → -b ≤ (norm s x).1 ∧ (norm s x).1 ≤ b := by
  induction s with
  | zero => intro x b h1 h2; exact ⟨h1, h2⟩
  | succ s ih =>
    intro x b h1 h2
    unfold norm
    by_cases h : x % 10 = 0
    · rw [if_pos h]; exact ih _ _ (by omega) (by omega)
    · rw [if_neg h]; exact ⟨h1, h2⟩
theorem norm_sign (s : Nat) : ∀ x, ((norm s x).1 < 0 ↔ x < 0) ∧ ((norm s x).1 = 0 ↔ x = 0) := by
  induction s with
  | zero => intro x; exact ⟨Iff.rfl, Iff.rfl⟩
  | succ s ih =>
    intro x
    unfold norm
    by_cases h : x % 10 = 0
    · rw [if_pos h]; have := ih (x / 10); omega
    · rw [if_neg h]; exact ⟨Iff.rfl, Iff.rfl⟩

theorem fit_eq (x : Int) (s : Nat) (hs : s ≤ 9) : fitZ x s = if -999999999999999999 ≤ (norm s x).1 ∧ (norm s x).1 ≤ 999999999999999999 then some (norm s x) else none := by
  have e : cut x s = x := by unfold cut; rw [if_neg (by omega)]
  unfold fitZ
  rw [e, show min s 9 = s by omega]
theorem fit_low (x : Int) (s : Nat) (hs : s ≤ 9) : fitZ x s = fitZ (x * 10 ^ (9 - s)) 9 := by
  have h := norm_ups s (9 - s) x
  rw [show s + (9 - s) = 9 by omega] at h
  rw [fit_eq x s hs, fit_eq _ 9 (by omega), h]
/-- What fits, by its value. -/
theorem fit9_some (v n : Int) (k : Nat) : fitZ v 9 = some (n, k) ↔ RightZ n k ∧ v9 n k = v := by
  rw [fit_eq _ 9 (by omega)]
  unfold RightZ v9
  constructor
  · intro h
    by_cases hb : -999999999999999999 ≤ (norm 9 v).1 ∧ (norm 9 v).1 ≤ 999999999999999999
    · rw [if_pos hb] at h
      have e : norm 9 v = (n, k) := by injection h
      have := norm_spec 9 v
      rw [e] at this hb
      exact ⟨⟨hb.1, hb.2, this.1, this.2.2⟩, this.2.1⟩
    · rw [if_neg hb] at h; cases h
  · rintro ⟨⟨h1, h2, h3, h4⟩, rfl⟩
    rw [norm_fix 9 k n h3 h4, if_pos ⟨h1, h2⟩]
theorem fit_some (x n : Int) (s k : Nat) (hs : s ≤ 9) : fitZ x s = some (n, k) ↔ RightZ n k ∧ v9 n k = x * 10 ^ (9 - s) := by
  rw [fit_low x s hs]; exact fit9_some _ _ _
theorem fit_back (n : Int) (k : Nat) (h : RightZ n k) : fitZ (v9 n k) 9 = some (n, k) := (fit9_some _ _ _).2 ⟨h, rfl⟩
theorem fit_small (x : Int) (s : Nat) (hs : s ≤ 9) (h1 : -999999999999999999 ≤ x) (h2 : x ≤ 999999999999999999) : ∃ n k, fitZ x s = some (n, k) := by
  have := norm_le s x 999999999999999999 h1 h2
  rw [fit_eq _ s hs, if_pos ⟨this.1, this.2⟩]
  exact ⟨_, _, rfl⟩
theorem v9_inj (n m : Int) (k l : Nat) (h : RightZ n k) (h' : RightZ m l) : v9 n k = v9 m l ↔ n = m ∧ k = l := by
  constructor
  · intro e
    have a := fit_back n k h
    rw [e, fit_back m l h'] at a
    injection a with a; injection a with a b
    exact ⟨a.symm, b.symm⟩
  · rintro ⟨rfl, rfl⟩; rfl
theorem v9_at (n : Int) (k s : Nat) (hk : k ≤ s) (hs : s ≤ 9) : n * 10 ^ (s - k) * 10 ^ (9 - s) = v9 n k := by
  unfold v9
  rw [Int.mul_assoc, ← Int.pow_add, show s - k + (9 - s) = 9 - k by omega]
end Go.Proofs.Wide
namespace Go.Proofs.Wide
def outN (r : Option (Int × Nat)) : Int := match r with | some (n, _) => n | none => 0
def outK (r : Option (Int × Nat)) : Int := match r with | some (_, k) => k | none => 0
def outE (r : Option (Int × Nat)) : Int := match r with | some _ => 0 | none => 53
end Go.Proofs.Wide
