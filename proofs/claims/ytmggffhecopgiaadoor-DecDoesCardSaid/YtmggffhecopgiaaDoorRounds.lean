/- Package dec rounds numbers. No condition beyond what the theorems state. -/
import Derived.Test.YtmggffhecopgiaaDoorParts
namespace Go.Proofs
open Go.Shelf Go.RowKit Go.Proofs.Wide
theorem part_bd (n : Int) (k : Nat) (h : RightZ n k) : -999999999999999999 ≤ n / 10 ^ k ∧ n / 10 ^ k ≤ 999999999999999999 ∧ 0 ≤ n % 10 ^ k ∧ n % 10 ^ k < 10 ^ k := by
  have p1 := ten_pos k
  have c := Int.emod_nonneg n (by omega : (10 ^ k : Int) ≠ 0)
  have d := Int.emod_lt_of_pos n p1
  refine ⟨?_, ?_, c, d⟩
  · refine Int.le_ediv_of_mul_le p1 ?_
    have : 999999999999999999 * 1 ≤ 999999999999999999 * (10 : Int) ^ k := Int.mul_le_mul_of_nonneg_left (by omega) (by decide)
    rw [Int.neg_mul]
    have := h.1; omega
  · have hn := h.2.1
    by_cases h0 : 0 ≤ n
    · have := Int.ediv_le_self (10 ^ k) h0; omega
    · have := Int.ediv_neg_of_neg_of_pos (by omega : n < 0) p1; omega
theorem rest_right (n : Int) (k : Nat) (h : RightZ n k) : RightZ (n % 10 ^ k) k := by
  obtain ⟨_, _, c, d⟩ := part_bd n k h
  have p := pow9 k h.2.2.1
  refine ⟨by omega, by omega, h.2.2.1, ?_⟩
  rcases h.2.2.2 with e | e
  · exact .inl e
  · by_cases hk : k = 0
    · exact .inl hk
    · right
      obtain ⟨j, rfl⟩ : ∃ j, k = j + 1 := ⟨k - 1, by omega⟩
      have m := Int.mul_ediv_add_emod n (10 ^ (j + 1))
      rw [Int.pow_succ, Int.mul_assoc, Int.mul_left_comm] at m
      rw [Int.pow_succ]
      omega
theorem half_right : RightZ 5 1 := by unfold RightZ; omega
def floorZ (n : Int) (k : Nat) : Int := n / 10 ^ k
def ceilZ (n : Int) (k : Nat) : Int := if 0 < n % 10 ^ k then n / 10 ^ k + 1 else n / 10 ^ k
def roundZ (n : Int) (k : Nat) : Int := if 0 ≤ cmpZ (n % 10 ^ k) k 5 1 then n / 10 ^ k + 1 else n / 10 ^ k

theorem floor_any (n : Int) (k : Nat) (h : RightZ n k) (w0 : World) : Calls Tryd.prog 27 #[nv n k] w0 fun e w' => e = .returned (nv (floorZ n k) 0) ∧ Below w0.heap.size w0 w' := by
  have P : Hid (Gives 55 #[nv n k] (.tuple #[.int .i64 (n / 10 ^ k), .agg #[.int .i64 (n % 10 ^ k), .int .i64 k]])) := gives_unfold fun w => parts_any n k h w
  obtain ⟨b1, b2, b3, b4⟩ := part_bd n k h
  unfold floorZ
  generalize n / 10 ^ k = q at *
  generalize n % 10 ^ k = d at *
  unfold nv at *
  clear h b1 b2 b3 b4
  go_enter Tryd.func27, Tryd.ntmps27
  go_wp2_with (first
    | (go_at_call 55; refine (P.out.call _).mono ?_; rintro e w1 ⟨rfl, hb1⟩; obtain ⟨hc1, hf1⟩ := bcell hb1; have z1 : w0.heap.size + 1 < w1.heap.size := zz hb1 (by first | assumption | (simp; done) | (simp; omega)); have z10 : w0.heap.size < w1.heap.size := (by omega)))
  exact bodyPost_ret (v := .agg #[.int .i64 q, .int .i64 0]) (by simp [results, Tryd.results27, go_sem, *]) rfl ⟨rfl, by repeat (first | exact Below.refl _ _ | apply ba | apply bd | apply bdr | (refine bs ?_ (by first | (simp; done) | (simp; omega))) | (refine bt ?_ (by assumption)))⟩

theorem ceil_at (n : Int) (k : Nat) (h : RightZ n k) (hd : ¬ 0 < n % 10 ^ k) (w0 : World) : Calls Tryd.prog 28 #[nv n k] w0 fun e w' => e = .returned (nv (ceilZ n k) 0) ∧ Below w0.heap.size w0 w' := by
  have e : ceilZ n k = n / 10 ^ k := by unfold ceilZ; rw [if_neg hd]
  rw [e]
  clear e
  have P : Hid (Gives 55 #[nv n k] (.tuple #[.int .i64 (n / 10 ^ k), .agg #[.int .i64 (n % 10 ^ k), .int .i64 k]])) := gives_unfold fun w => parts_any n k h w
  obtain ⟨b1, b2, b3, b4⟩ := part_bd n k h
  generalize n / 10 ^ k = q at *
  generalize n % 10 ^ k = d at *
  have ww : IntKind.i64.wrap (q + 1) = q + 1 := by rw [IntKind.wrap_i64]; omega
  unfold nv at *
  clear h b1 b2 b3 b4
  go_enter Tryd.func28, Tryd.ntmps28
  go_wp2_with (first
    | (go_at_call 55; refine (P.out.call _).mono ?_; rintro e w1 ⟨rfl, hb1⟩; obtain ⟨hc1, hf1⟩ := bcell hb1; have z1 : w0.heap.size + 1 < w1.heap.size := zz hb1 (by first | assumption | (simp; done) | (simp; omega)); have z10 : w0.heap.size < w1.heap.size := (by omega)))
  exact bodyPost_ret (v := .agg #[.int .i64 (q), .int .i64 0]) (by simp [results, Tryd.results28, go_sem, *]) rfl ⟨rfl, by repeat (first | exact Below.refl _ _ | apply ba | apply bd | apply bdr | (refine bs ?_ (by first | (simp; done) | (simp; omega))) | (refine bt ?_ (by assumption)))⟩

theorem ceil_up (n : Int) (k : Nat) (h : RightZ n k) (hd : 0 < n % 10 ^ k) (w0 : World) : Calls Tryd.prog 28 #[nv n k] w0 fun e w' => e = .returned (nv (ceilZ n k) 0) ∧ Below w0.heap.size w0 w' := by
  have e : ceilZ n k = n / 10 ^ k + 1 := by unfold ceilZ; rw [if_pos hd]
  rw [e]
  clear e
  have P : Hid (Gives 55 #[nv n k] (.tuple #[.int .i64 (n / 10 ^ k), .agg #[.int .i64 (n % 10 ^ k), .int .i64 k]])) := gives_unfold fun w => parts_any n k h w
  obtain ⟨b1, b2, b3, b4⟩ := part_bd n k h
  generalize n / 10 ^ k = q at *
  generalize n % 10 ^ k = d at *
  have ww : IntKind.i64.wrap (q + 1) = q + 1 := by rw [IntKind.wrap_i64]; omega
  unfold nv at *
  clear h b1 b2 b3 b4
  go_enter Tryd.func28, Tryd.ntmps28
  go_wp2_with (first
    | (go_at_call 55; refine (P.out.call _).mono ?_; rintro e w1 ⟨rfl, hb1⟩; obtain ⟨hc1, hf1⟩ := bcell hb1; have z1 : w0.heap.size + 1 < w1.heap.size := zz hb1 (by first | assumption | (simp; done) | (simp; omega)); have z10 : w0.heap.size < w1.heap.size := (by omega)))
  exact bodyPost_ret (v := .agg #[.int .i64 (q + 1), .int .i64 0]) (by simp [results, Tryd.results28, go_sem, *]) rfl ⟨rfl, by repeat (first | exact Below.refl _ _ | apply ba | apply bd | apply bdr | (refine bs ?_ (by first | (simp; done) | (simp; omega))) | (refine bt ?_ (by assumption)))⟩

theorem round_at (n : Int) (k : Nat) (h : RightZ n k) (hd : ¬ 0 ≤ cmpZ (n % 10 ^ k) k 5 1) (w0 : World) : Calls Tryd.prog 29 #[nv n k] w0 fun e w' => e = .returned (nv (roundZ n k) 0) ∧ Below w0.heap.size w0 w' := by
  have e : roundZ n k = n / 10 ^ k := by unfold roundZ; rw [if_neg hd]
  rw [e]
  clear e
  have P : Hid (Gives 55 #[nv n k] (.tuple #[.int .i64 (n / 10 ^ k), .agg #[.int .i64 (n % 10 ^ k), .int .i64 k]])) := gives_unfold fun w => parts_any n k h w
  obtain ⟨b1, b2, b3, b4⟩ := part_bd n k h
  have C : Hid (Gives 25 #[nv (n % 10 ^ k) k, nv 5 (1 : Nat)] (.int .i64 (cmpZ (n % 10 ^ k) k 5 1))) := gives_unfold fun w => cmp_any (n % 10 ^ k) 5 k 1 (rest_right n k h) half_right w
  rw [show ((1 : Nat) : Int) = 1 from rfl] at C
  generalize cmpZ (n % 10 ^ k) k 5 1 = c at *
  generalize n / 10 ^ k = q at *
  generalize n % 10 ^ k = d at *
  have ww : IntKind.i64.wrap (q + 1) = q + 1 := by rw [IntKind.wrap_i64]; omega
  unfold nv at *
  clear h b1 b2 b3 b4
  go_enter Tryd.func29, Tryd.ntmps29
  go_wp2_with (first
    | (go_at_call 55; refine (P.out.call _).mono ?_; rintro e w1 ⟨rfl, hb1⟩; obtain ⟨hc1, hf1⟩ := bcell hb1; have z1 : w0.heap.size + 1 < w1.heap.size := zz hb1 (by first | assumption | (simp; done) | (simp; omega)); have z10 : w0.heap.size < w1.heap.size := (by omega))
    | (go_at_call 25; refine (C.out.call _).mono ?_; rintro e w2 ⟨rfl, hb2⟩; obtain ⟨hc2, hf2⟩ := bcell hb2; have z2 : w0.heap.size + 1 < w2.heap.size := zz hb2 (by first | assumption | (simp; done) | (simp; omega)); have z20 : w0.heap.size < w2.heap.size := (by omega)))
  exact bodyPost_ret (v := .agg #[.int .i64 (q), .int .i64 0]) (by simp [results, Tryd.results29, go_sem, *]) rfl ⟨rfl, by repeat (first | exact Below.refl _ _ | apply ba | apply bd | apply bdr | (refine bs ?_ (by first | (simp; done) | (simp; omega))) | (refine bt ?_ (by assumption)))⟩

theorem round_up (n : Int) (k : Nat) (h : RightZ n k) (hd : 0 ≤ cmpZ (n % 10 ^ k) k 5 1) (w0 : World) : Calls Tryd.prog 29 #[nv n k] w0 fun e w' => e = .returned (nv (roundZ n k) 0) ∧ Below w0.heap.size w0 w' := by
  have e : roundZ n k = n / 10 ^ k + 1 := by unfold roundZ; rw [if_pos hd]
  rw [e]
  clear e
  have P : Hid (Gives 55 #[nv n k] (.tuple #[.int .i64 (n / 10 ^ k), .agg #[.int .i64 (n % 10 ^ k), .int .i64 k]])) := gives_unfold fun w => parts_any n k h w
  obtain ⟨b1, b2, b3, b4⟩ := part_bd n k h
  have C : Hid (Gives 25 #[nv (n % 10 ^ k) k, nv 5 (1 : Nat)] (.int .i64 (cmpZ (n % 10 ^ k) k 5 1))) := gives_unfold fun w => cmp_any (n % 10 ^ k) 5 k 1 (rest_right n k h) half_right w
  rw [show ((1 : Nat) : Int) = 1 from rfl] at C
  generalize cmpZ (n % 10 ^ k) k 5 1 = c at *
  generalize n / 10 ^ k = q at *
  generalize n % 10 ^ k = d at *
  have ww : IntKind.i64.wrap (q + 1) = q + 1 := by rw [IntKind.wrap_i64]; omega
  unfold nv at *
  clear h b1 b2 b3 b4
  go_enter Tryd.func29, Tryd.ntmps29
  go_wp2_with (first
    | (go_at_call 55; refine (P.out.call _).mono ?_; rintro e w1 ⟨rfl, hb1⟩; obtain ⟨hc1, hf1⟩ := bcell hb1; have z1 : w0.heap.size + 1 < w1.heap.size := zz hb1 (by first | assumption | (simp; done) | (simp; omega)); have z10 : w0.heap.size < w1.heap.size := (by omega))
    | (go_at_call 25; refine (C.out.call _).mono ?_; rintro e w2 ⟨rfl, hb2⟩; obtain ⟨hc2, hf2⟩ := bcell hb2; have z2 : w0.heap.size + 1 < w2.heap.size := zz hb2 (by first | assumption | (simp; done) | (simp; omega)); have z20 : w0.heap.size < w2.heap.size := (by omega)))
  exact bodyPost_ret (v := .agg #[.int .i64 (q + 1), .int .i64 0]) (by simp [results, Tryd.results29, go_sem, *]) rfl ⟨rfl, by repeat (first | exact Below.refl _ _ | apply ba | apply bd | apply bdr | (refine bs ?_ (by first | (simp; done) | (simp; omega))) | (refine bt ?_ (by assumption)))⟩

theorem ceil_any (n : Int) (k : Nat) (h : RightZ n k) (w0 : World) : Calls Tryd.prog 28 #[nv n k] w0 fun e w' => e = .returned (nv (ceilZ n k) 0) ∧ Below w0.heap.size w0 w' := by
  by_cases hd : 0 < n % 10 ^ k
  · exact ceil_up n k h hd w0
  · exact ceil_at n k h hd w0
theorem round_any (n : Int) (k : Nat) (h : RightZ n k) (w0 : World) : Calls Tryd.prog 29 #[nv n k] w0 fun e w' => e = .returned (nv (roundZ n k) 0) ∧ Below w0.heap.size w0 w' := by
  by_cases hd : 0 ≤ cmpZ (n % 10 ^ k) k 5 1
  · exact round_up n k h hd w0
  · exact round_at n k h hd w0
end Go.Proofs
