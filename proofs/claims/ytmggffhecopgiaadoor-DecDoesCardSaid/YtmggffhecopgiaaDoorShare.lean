/- Package dec shares sizes. No condition beyond what the theorems state. -/
import Derived.Test.YtmggffhecopgiaaDoorDivWord
import Derived.Test.YtmggffhecopgiaaDoorDecMath
import Derived.RegionTactic
import Derived.Deep.RegionHeld3
namespace Go.Proofs
open Go.Shelf Go.RowKit Go.Proofs.Wide

theorem bd {w w1 : World} {n : Nat} (h : Below w.heap.size w w1) : Below w.heap.size w (w1.drewN n) := ⟨h.os, h.tape, h.output, h.size, h.block⟩
theorem bdr {w w1 : World} (h : Below w.heap.size w w1) : Below w.heap.size w w1.drew := h.drew

theorem share_words (x y : Int) (hx : 0 ≤ x) (hx' : x < 340282366920938463463374607431768211456) (hy : 0 < y) (hy' : y < 18446744073709551616) :
    hi (x / y) = hi x / y ∧ lo (x / y) = (hi x % y * 18446744073709551616 + lo x) / y ∧ hi (x % y) = 0 ∧ lo (x % y) = (hi x % y * 18446744073709551616 + lo x) % y := by
  have m := Int.mul_ediv_add_emod (hi x) y
  have m2 := Int.emod_nonneg (hi x) (by omega : y ≠ 0)
  have m3 := Int.emod_lt_of_pos (hi x) hy
  have b := hi_bd x
  have c := lo_bd x
  have e : x = (hi x % y * 18446744073709551616 + lo x) + y * (hi x / y * 18446744073709551616) := by
    rw [← Int.mul_assoc]
    have : x = hi x * 18446744073709551616 + lo x := by unfold hi lo; omega
    omega
  have q : x / y = hi x / y * 18446744073709551616 + (hi x % y * 18446744073709551616 + lo x) / y := by
    conv => lhs; rw [e]
    rw [Int.add_mul_ediv_left _ _ (by omega)]; omega
  have r : x % y = (hi x % y * 18446744073709551616 + lo x) % y := by
    conv => lhs; rw [e]
    rw [Int.add_mul_emod_self_left]
  have d0 : 0 ≤ hi x / y := Int.ediv_nonneg b.1 (by omega)
  have d1 : hi x / y < 18446744073709551616 := Int.ediv_lt_of_lt_mul hy (by omega)
  have d2 : 0 ≤ (hi x % y * 18446744073709551616 + lo x) / y := Int.ediv_nonneg (by omega) (by omega)
  have d3 : (hi x % y * 18446744073709551616 + lo x) / y < 18446744073709551616 := Int.ediv_lt_of_lt_mul hy (by omega)
  obtain ⟨j1, j2⟩ := join _ _ ⟨d0, d1⟩ ⟨d2, d3⟩
  have n0 := Int.emod_nonneg (hi x % y * 18446744073709551616 + lo x) (by omega : y ≠ 0)
  have n1 := Int.emod_lt_of_pos (hi x % y * 18446744073709551616 + lo x) hy
  obtain ⟨k1, k2⟩ := hi_of _ n0 (by omega)
  rw [q, r]
  exact ⟨j1, j2, k1, k2⟩

set_option maxHeartbeats 1000000 in
theorem share_low (x y : Int) (hx : 0 ≤ x) (hx' : x < 340282366920938463463374607431768211456) (hy : 0 < y) (hy' : y < 18446744073709551616) (w : World) :
    Calls Tryd.prog 72 #[wv x, wv y] w fun e w' => e = .returned (.tuple #[wv (x / y), wv (x % y)]) ∧ Below w.heap.size w w' := by
  obtain ⟨s1, s2, s3, s4⟩ := share_words x y hx hx' hy hy'
  unfold wv
  rw [s1, s2, s3, s4]
  have hyl : lo y = y ∧ hi y = 0 := by unfold lo hi; omega
  rw [hyl.1, hyl.2]
  have b := hi_bd x
  have c := lo_bd x
  have D1 := fun w => div64_any 0 (hi x) y (by decide) hy b.1 b.2 hy' w
  rw [Int.zero_mul, Int.zero_add] at D1
  have D2 := fun w => div64_any (hi x % y) (lo x) y (Int.emod_nonneg _ (by omega)) (Int.emod_lt_of_pos _ hy) c.1 c.2 hy' w
  generalize hi x = a at *; generalize lo x = l at *
  have H1 := Lib.hid D1; have H2 := Lib.hid D2
  obtain ⟨qa, hqa⟩ : ∃ q, q = a / y := ⟨_, rfl⟩
  obtain ⟨ra, hra⟩ : ∃ q, q = a % y := ⟨_, rfl⟩
  obtain ⟨qb, hqb⟩ : ∃ q, q = (a % y * 18446744073709551616 + l) / y := ⟨_, rfl⟩
  obtain ⟨rb, hrb⟩ : ∃ q, q = (a % y * 18446744073709551616 + l) % y := ⟨_, rfl⟩
  rw [← hqa, ← hra] at H1
  rw [← hqb, ← hrb, ← hra] at H2
  rw [← hqa, ← hqb, ← hrb]
  clear D1 D2 s1 s2 s3 s4 hyl hqa hqb hrb hra
  go_enter Tryd.func72, Tryd.ntmps72
  go_wp2_with fail
  go_at_call 88
  refine (H1.out _).mono ?_; rintro e w' ⟨rfl, n1, rfl⟩
  go_wp2_with fail
  go_at_call 88
  refine (H2.out _).mono ?_; rintro e w' ⟨rfl, n2, rfl⟩
  go_wp2_with fail
  exact bodyPost_ret (v := .tuple #[.agg #[.int .u64 qa, .int .u64 qb], .agg #[.int .u64 0, .int .u64 rb]]) (by simp [results, Tryd.results72, go_sem]) rfl ⟨rfl, by repeat (first | exact Below.refl _ _ | apply ba | (refine bs ?_ (by simp; omega)) | apply bd | (refine bt ?_ (by assumption)))⟩

theorem share_high (x y : Int) (hx : 0 ≤ x) (hxy : x < y) (hy : 18446744073709551616 ≤ y) (hy' : y < 170141183460469231731687303715884105728) (w : World) :
    Calls Tryd.prog 72 #[wv x, wv y] w fun e w' => e = .returned (.tuple #[wv (x / y), wv (x % y)]) ∧ Below w.heap.size w w' := by
  rw [Int.ediv_eq_zero_of_lt hx hxy, Int.emod_eq_of_lt hx hxy]
  have h : ¬ hi y = 0 := by unfold hi; omega
  unfold wv
  rw [show hi 0 = 0 from rfl, show lo 0 = 0 from rfl]
  generalize hi x = a at *; generalize lo x = l at *; generalize hi y = b at *; generalize lo y = m at *
  go_enter Tryd.func72, Tryd.ntmps72
  go_wp2
  go_region
  all_goals go_wp2
  exact bodyPost_ret (v := .tuple #[.agg #[.int .u64 0, .int .u64 0], .agg #[.int .u64 a, .int .u64 l]]) (by simp [results, Tryd.results72, go_sem]) rfl ⟨rfl, by repeat (first | exact Below.refl _ _ | apply ba | (refine bs ?_ (by simp; omega)) | apply bd | apply bdr | (refine bt ?_ (by assumption)))⟩

theorem share_any (x y : Int) (hx : 0 ≤ x) (hx' : x < 170141183460469231731687303715884105728) (hy : 0 < y) (hy' : y < 170141183460469231731687303715884105728) (h : y < 18446744073709551616 ∨ x < y) (w : World) :
    Calls Tryd.prog 72 #[wv x, wv y] w fun e w' => e = .returned (.tuple #[wv (x / y), wv (x % y)]) ∧ Below w.heap.size w w' := by
  by_cases hl : y < 18446744073709551616
  · exact share_low x y hx (by omega) hy hl w
  · exact share_high x y hx (by omega) (by omega) hy' w
end Go.Proofs
