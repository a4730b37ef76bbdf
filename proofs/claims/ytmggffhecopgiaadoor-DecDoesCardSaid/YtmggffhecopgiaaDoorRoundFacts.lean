/- Plain facts on the whole numbers next to a number. No condition beyond what the theorems state. -/
import Derived.Test.YtmggffhecopgiaaDoorRowSums
namespace Go.Proofs
open Go.Proofs.Wide
theorem whole_right {n q : Int} {k : Nat} (h : RightZ n k) (hq : q = n / 10 ^ k ∨ (q = n / 10 ^ k + 1 ∧ k ≠ 0)) : RightZ q 0 := by
  obtain ⟨b1, b2, _, _⟩ := part_bd n k h
  rcases hq with rfl | ⟨rfl, hk⟩
  · exact ⟨b1, b2, by omega, .inl rfl⟩
  · obtain ⟨j, rfl⟩ : ∃ j, k = j + 1 := ⟨k - 1, by omega⟩
    have p := ten_pos j
    have e : n / 10 ^ (j + 1) = n / 10 / 10 ^ j := by rw [Int.pow_succ, Int.mul_comm, Int.ediv_ediv_of_nonneg (by decide)]
    have u : n / 10 ≤ 99999999999999999 := by have := h.2.1; omega
    have u2 : n / 10 / 10 ^ j ≤ 99999999999999999 := by
      by_cases h0 : 0 ≤ n / 10
      · have := Int.ediv_le_self (10 ^ j) h0; omega
      · have := Int.ediv_neg_of_neg_of_pos (by omega : n / 10 < 0) p; omega
    rw [e] at b1 ⊢
    exact ⟨by omega, by omega, by omega, .inl rfl⟩
theorem rest_pos {n : Int} {k : Nat} (h : RightZ n k) : (k = 0 ∧ n % 10 ^ k = 0) ∨ (k ≠ 0 ∧ 0 < n % 10 ^ k) := by
  by_cases hk : k = 0
  · subst hk; exact .inl ⟨rfl, by simp⟩
  · right
    refine ⟨hk, ?_⟩
    obtain ⟨_, _, c, _⟩ := part_bd n k h
    have hr := rest_right n k h
    rcases hr.2.2.2 with e | e
    · exact absurd e hk
    · rcases Int.lt_or_eq_of_le c with h1 | h1
      · exact h1
      · rw [← h1] at e; simp at e
/-- All that is asked of the whole numbers next to a number. -/
theorem round_facts {n : Int} {k : Nat} (h : RightZ n k) : RightZ (floorZ n k) 0 ∧ RightZ (ceilZ n k) 0 ∧ RightZ (roundZ n k) 0 ∧ cmpZ (floorZ n k) 0 n k ≤ 0 ∧ 0 ≤ cmpZ (ceilZ n k) 0 n k ∧
    ceilZ n k - floorZ n k ≤ 1 ∧ floorZ n k ≤ ceilZ n k ∧ (ceilZ n k = floorZ n k ↔ k = 0) ∧
    ∃ a ak b bk, subZ n k (floorZ n k) 0 = some (a, ak) ∧ subZ (ceilZ n k) 0 n k = some (b, bk) ∧ RightZ a ak ∧ RightZ b bk ∧
      ((0 ≤ cmpZ a ak b bk ∧ roundZ n k = ceilZ n k) ∨ (¬ 0 ≤ cmpZ a ak b bk ∧ roundZ n k = floorZ n k)) := by
  have hk := h.2.2.1
  obtain ⟨b1, b2, d0, d1⟩ := part_bd n k h
  have rp := rest_pos h
  have m := Int.mul_ediv_add_emod n (10 ^ k)
  have hd := rest_right n k h
  have hp := pow9 k hk
  have pE : (10 : Int) ^ k * 10 ^ (9 - k) = 1000000000 := by rw [← Int.pow_add, show k + (9 - k) = 9 by omega]; rfl
  have cE : n % 10 ^ k * 10 ^ (9 - k) = v9 (n % 10 ^ k) k := rfl
  have e0 := ten_pos (9 - k)
  have vn : v9 n k = n / 10 ^ k * 1000000000 + v9 (n % 10 ^ k) k := by
    unfold v9
    conv => lhs; rw [← m]
    rw [Int.add_mul, Int.mul_comm (10 ^ k), Int.mul_assoc, pE]
  have vq : ∀ q : Int, v9 q 0 = q * 1000000000 := fun q => rfl
  have vD0 : 0 ≤ v9 (n % 10 ^ k) k := by unfold v9; exact Int.mul_nonneg d0 (Int.le_of_lt e0)
  have vD1 : v9 (n % 10 ^ k) k < 1000000000 := by
    rw [← pE]; unfold v9; exact Int.mul_lt_mul_of_pos_right d1 e0
  have vDz : n % 10 ^ k = 0 ↔ v9 (n % 10 ^ k) k = 0 := by
    unfold v9
    constructor
    · intro hh; rw [hh, Int.zero_mul]
    · intro hh
      rcases Int.mul_eq_zero.1 hh with h1 | h1
      · exact h1
      · omega
  have hf : RightZ (floorZ n k) 0 := whole_right h (.inl rfl)
  have hcv : ceilZ n k = n / 10 ^ k ∨ (ceilZ n k = n / 10 ^ k + 1 ∧ k ≠ 0) := by
    unfold ceilZ; split
    · right; refine ⟨rfl, ?_⟩; rcases rp with ⟨_, e⟩ | ⟨e, _⟩
      · omega
      · exact e
    · exact .inl rfl
  have hc : RightZ (ceilZ n k) 0 := whole_right h hcv
  have half := half_right
  have cr : cmpZ (n % 10 ^ k) k 5 1 = if v9 (n % 10 ^ k) k < 500000000 then -1 else if v9 (n % 10 ^ k) k = 500000000 then 0 else 1 := by
    rw [cmp_eq hk (by decide)]; rfl
  have hrv : roundZ n k = n / 10 ^ k ∨ (roundZ n k = n / 10 ^ k + 1 ∧ k ≠ 0) := by
    unfold roundZ; split
    · rename_i hh; right; refine ⟨rfl, ?_⟩
      rcases rp with ⟨_, e⟩ | ⟨e, _⟩
      · rw [cr, vDz.1 e] at hh; simp at hh
      · exact e
    · exact .inl rfl
  have hr : RightZ (roundZ n k) 0 := whole_right h hrv
  have sub1 : ∃ a ak, subZ n k (floorZ n k) 0 = some (a, ak) := by
    unfold subZ
    have s0 : sc k 0 = k := by unfold sc; omega
    have x1 : lx n k 0 = n := by unfold lx; rw [s0]; simp
    have x2 : lx (floorZ n k) 0 k = n / 10 ^ k * 10 ^ k := by unfold lx floorZ; rw [sc_comm, s0]; simp
    rw [s0, x1, x2]
    refine fit_small _ k hk ?_ ?_ <;> rw [Int.mul_comm] <;> omega
  have sub2 : ∃ b bk, subZ (ceilZ n k) 0 n k = some (b, bk) := by
    unfold subZ
    have s0 : sc 0 k = k := by unfold sc; omega
    have x1 : lx n k 0 = n := by unfold lx; rw [sc_comm, s0]; simp
    have x2 : lx (ceilZ n k) 0 k = ceilZ n k * 10 ^ k := by unfold lx; rw [s0]; simp
    rw [s0, x1, x2]
    have e : ceilZ n k * 10 ^ k = 10 ^ k * (n / 10 ^ k) ∨ ceilZ n k * 10 ^ k = 10 ^ k * (n / 10 ^ k) + 10 ^ k := by
      rcases hcv with e | ⟨e, _⟩
      · left; rw [e, Int.mul_comm]
      · right; rw [e, Int.add_mul, Int.mul_comm]; omega
    refine fit_small _ k hk ?_ ?_ <;> omega
  obtain ⟨a, ak, ea⟩ := sub1
  obtain ⟨b, bk, eb⟩ := sub2
  have fa := (sub_some hk (by decide)).1 ea
  have fb := (sub_some (by decide) hk).1 eb
  have va := fa.2
  have vb := fb.2
  rw [vq, vn] at va
  rw [vq, vn] at vb
  unfold floorZ at va
  refine ⟨hf, hc, hr, ?_, ?_, ?_, ?_, ?_, a, ak, b, bk, ea, eb, fa.1, fb.1, ?_⟩
  · rw [cmp_eq (by decide) hk, vq, vn]; unfold floorZ; repeat' split
    all_goals omega
  · rw [cmp_eq (by decide) hk, vq, vn]; unfold ceilZ
    rcases rp with ⟨_, e⟩ | ⟨_, e⟩
    · rw [if_neg (by omega)]; have := vDz.1 e; repeat' split
      all_goals omega
    · rw [if_pos e]; repeat' split
      all_goals omega
  · unfold ceilZ floorZ; split <;> omega
  · unfold ceilZ floorZ; split <;> omega
  · unfold ceilZ floorZ
    rcases rp with ⟨e1, e⟩ | ⟨e1, e⟩
    · rw [if_neg (by omega)]; simp [e1]
    · rw [if_pos e]; simp [e1]; omega
  · unfold ceilZ at vb
    rw [cmp_eq fa.1.2.2.1 fb.1.2.2.1, va, vb]
    unfold roundZ
    rw [cr]
    unfold ceilZ floorZ
    rcases rp with ⟨e1, e⟩ | ⟨e1, e⟩
    · have := vDz.1 e
      have hc0 : ¬ 0 < n % 10 ^ k := by omega
      rw [if_neg hc0] at ⊢
      left
      refine ⟨?_, ?_⟩
      · repeat' split
        all_goals omega
      · rw [if_neg]; repeat' split
        all_goals omega
    · rw [if_pos e] at ⊢
      by_cases hh : v9 (n % 10 ^ k) k < 500000000
      · right
        refine ⟨?_, ?_⟩
        · repeat' split
          all_goals omega
        · rw [if_pos hh, if_neg (by decide)]
      · left
        refine ⟨?_, ?_⟩
        · repeat' split
          all_goals omega
        · rw [if_neg hh, if_pos]; split <;> decide
end Go.Proofs
