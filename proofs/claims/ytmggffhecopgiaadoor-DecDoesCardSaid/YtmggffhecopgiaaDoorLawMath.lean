/- Plain facts on sums, products, quotients and the order of decimal numbers. No condition beyond what the theorems state. -/
import Derived.Test.YtmggffhecopgiaaDoorAwake
namespace Go.Proofs
open Go.Proofs.Wide
theorem lx_v9 (n : Int) {k l : Nat} (hk : k ≤ 9) (hl : l ≤ 9) : lx n k l * 10 ^ (9 - sc k l) = v9 n k := by
  unfold lx; exact v9_at n k (sc k l) (by unfold sc; omega) (by unfold sc; omega)
theorem lx_v9' (m : Int) {k l : Nat} (hk : k ≤ 9) (hl : l ≤ 9) : lx m l k * 10 ^ (9 - sc k l) = v9 m l := by rw [sc_comm]; exact lx_v9 m hl hk
theorem add_some {n m a : Int} {k l b : Nat} (hk : k ≤ 9) (hl : l ≤ 9) : addZ n k m l = some (a, b) ↔ RightZ a b ∧ v9 a b = v9 n k + v9 m l := by
  unfold addZ
  rw [fit_some _ _ _ _ (by unfold sc; omega), Int.add_mul, lx_v9 n hk hl, lx_v9' m hk hl]
theorem sub_some {n m a : Int} {k l b : Nat} (hk : k ≤ 9) (hl : l ≤ 9) : subZ n k m l = some (a, b) ↔ RightZ a b ∧ v9 a b = v9 n k - v9 m l := by
  unfold subZ
  rw [fit_some _ _ _ _ (by unfold sc; omega), Int.sub_mul, lx_v9 n hk hl, lx_v9' m hk hl]
theorem cmp_eq {n m : Int} {k l : Nat} (hk : k ≤ 9) (hl : l ≤ 9) : cmpZ n k m l = if v9 n k < v9 m l then -1 else if v9 n k = v9 m l then 0 else 1 := by
  have p := ten_pos (9 - sc k l)
  unfold cmpZ
  rw [← lx_v9 n hk hl, ← lx_v9' m hk hl]
  have h1 : lx n k l < lx m l k ↔ lx n k l * 10 ^ (9 - sc k l) < lx m l k * 10 ^ (9 - sc k l) := ⟨fun h => Int.mul_lt_mul_of_pos_right h p, fun h => Int.lt_of_mul_lt_mul_right h (Int.le_of_lt p)⟩
  have h2 : lx n k l = lx m l k ↔ lx n k l * 10 ^ (9 - sc k l) = lx m l k * 10 ^ (9 - sc k l) := ⟨fun h => by rw [h], fun h => Int.eq_of_mul_eq_mul_right (Int.ne_of_gt p) h⟩
  simp only [h1, h2]
theorem add_comm' (n m : Int) (k l : Nat) : addZ n k m l = addZ m l n k := by unfold addZ; rw [Int.add_comm, sc_comm]
theorem mul_comm' (n m : Int) (k l : Nat) : mulZ n k m l = mulZ m l n k := by unfold mulZ; rw [Int.mul_comm, Nat.add_comm]
theorem cmp_anti {n m : Int} {k l : Nat} (hk : k ≤ 9) (hl : l ≤ 9) : cmpZ n k m l = -cmpZ m l n k := by
  rw [cmp_eq hk hl, cmp_eq hl hk]; repeat' split
  all_goals omega
theorem cmp_zero {n m : Int} {k l : Nat} (h : RightZ n k) (h' : RightZ m l) : cmpZ n k m l = 0 ↔ n = m ∧ k = l := by
  rw [cmp_eq h.2.2.1 h'.2.2.1, ← v9_inj n m k l h h']
  repeat' split
  all_goals omega
theorem sub_back {n m a : Int} {k l b : Nat} (h : RightZ n k) (h' : RightZ m l) (e : subZ n k m l = some (a, b)) : RightZ a b ∧ addZ a b m l = some (n, k) := by
  have := (sub_some h.2.2.1 h'.2.2.1).1 e
  refine ⟨this.1, (add_some this.1.2.2.1 h'.2.2.1).2 ⟨h, by omega⟩⟩
theorem idiv_some {n m a : Int} {k l b : Nat} (e : idivZ n k m l = some (a, b)) : b = 0 ∧ a = (lx n k l).tdiv (lx m l k) ∧ RightZ a 0 := by
  have h := (fit_some _ _ 0 b (by decide)).1 e
  unfold idivZ at e
  rw [fit_eq _ 0 (by decide)] at e
  split at e
  · injection e with e
    have e' : ((lx n k l).tdiv (lx m l k), 0) = (a, b) := e
    injection e' with e1 e2
    subst e2
    exact ⟨rfl, e1.symm, h.1⟩
  · cases e
theorem neg_left {a p : Int} (h : a * p < 0) (hp : 0 < p) : a < 0 := by
  by_cases ha : a < 0
  · exact ha
  · have := Int.mul_nonneg (by omega : 0 ≤ a) (Int.le_of_lt hp); omega
theorem mod_some {n m : Int} {k l : Nat} (h : RightZ n k) (h' : RightZ m l) (hm : m ≠ 0) : ∃ r rk, modZ n k m l = some (r, rk) ∧ RightZ r rk ∧ v9 r rk = (lx n k l).tmod (lx m l k) * 10 ^ (9 - sc k l) ∧ (r ≠ 0 → (r < 0 ↔ n < 0)) := by
  obtain ⟨_, _, _, b1, b2⟩ := lx_div n m k l h h' hm
  obtain ⟨r, rk, e⟩ := fit_small _ (sc k l) (sc_le h h') b1 b2
  have f := (fit_some _ _ _ _ (sc_le h h')).1 e
  refine ⟨r, rk, e, f.1, f.2, fun hr => ?_⟩
  have p := ten_pos (9 - rk)
  have p2 := ten_pos (9 - sc k l)
  have p3 := ten_pos (sc k l - k)
  have f2 := f.2
  unfold v9 at f2
  have s1 : r < 0 ↔ (lx n k l).tmod (lx m l k) < 0 := by
    constructor
    · intro hh
      have : r * 10 ^ (9 - rk) < 0 := Int.mul_neg_of_neg_of_pos hh p
      rw [f2] at this
      exact neg_left this p2
    · intro hh
      have : (lx n k l).tmod (lx m l k) * 10 ^ (9 - sc k l) < 0 := Int.mul_neg_of_neg_of_pos hh p2
      rw [← f2] at this
      exact neg_left this p
  have s2 : (lx n k l).tmod (lx m l k) ≠ 0 := by
    intro hz
    rw [hz, Int.zero_mul] at f2
    rcases Int.mul_eq_zero.1 f2 with hh | hh
    · exact hr hh
    · omega
  have s3 : lx n k l < 0 ↔ n < 0 := by
    unfold lx
    constructor
    · intro hh; exact neg_left hh p3
    · intro hh; exact Int.mul_neg_of_neg_of_pos hh p3
  rw [s1, ← s3]
  have hy := (lx_div n m k l h h' hm).1
  obtain ⟨_, e2⟩ := tdiv_size (lx n k l) (lx m l k) hy
  rw [← e2] at s2 ⊢
  have mb := Int.emod_nonneg (if lx n k l < 0 then -lx n k l else lx n k l) (by split <;> omega : (if lx m l k < 0 then -lx m l k else lx m l k) ≠ 0)
  by_cases hx : lx n k l < 0
  · simp only [hx, decide_true, if_true, iff_true] at *; omega
  · simp only [hx, decide_false, if_false, iff_false, Bool.false_eq_true] at *; omega
theorem div_back {n m r p : Int} {k l rk pk : Nat} (h : RightZ n k) (h' : RightZ m l) (hr : RightZ r rk) (ev : v9 r rk = (lx n k l).tmod (lx m l k) * 10 ^ (9 - sc k l))
    (ep : mulZ ((lx n k l).tdiv (lx m l k)) 0 m l = some (p, pk)) : RightZ p pk ∧ addZ p pk r rk = some (n, k) := by
  unfold mulZ at ep
  rw [Nat.zero_add] at ep
  have f := (fit_some _ _ _ _ h'.2.2.1).1 ep
  refine ⟨f.1, (add_some f.1.2.2.1 hr.2.2.1).2 ⟨h, ?_⟩⟩
  rw [f.2, ev, ← lx_v9 n h.2.2.1 h'.2.2.1, Int.mul_assoc]
  have e1 : m * 10 ^ (9 - l) = lx m l k * 10 ^ (9 - sc k l) := (lx_v9' m h.2.2.1 h'.2.2.1).symm
  rw [e1, ← Int.mul_assoc, ← Int.add_mul]
  congr 1
  have := Int.mul_tdiv_add_tmod (lx n k l) (lx m l k)
  rw [Int.mul_comm] at this
  exact this.symm
theorem right_of {n k : Int} (h : rightB (n, k) = true) : ∃ j : Nat, k = (j : Int) ∧ RightZ n j := by
  unfold rightB at h
  simp only [decide_eq_true_eq] at h
  obtain ⟨a, b, c, d, e⟩ := h
  exact ⟨k.toNat, by omega, a, b, by omega, by omega⟩
theorem right_zero : RightZ 0 0 := by unfold RightZ; omega
end Go.Proofs
