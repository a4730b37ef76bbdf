/- Package dec makes numbers, and parts them. No condition beyond what the theorems state. -/
import Derived.Test.YtmggffhecopgiaaDoorProducts
namespace Go.Proofs
open Go.Shelf Go.RowKit Go.Proofs.Wide

theorem make_low (n s : Int) (hs : s < 0) (w0 : World) : Calls Tryd.prog 11 #[.int .i64 n, .int .i64 s] w0 fun e w' => e = .returned (.tuple #[.agg #[.int .i64 0, .int .i64 0], .int .i64 2]) ∧ Below w0.heap.size w0 w' := by
  go_enter Tryd.func11, Tryd.ntmps11
  go_wp2
  exact bodyPost_ret (v := .tuple #[.agg #[.int .i64 0, .int .i64 0], .int .i64 2]) (by simp [results, Tryd.results11, go_sem, *]) rfl ⟨rfl, by repeat (first | exact Below.refl _ _ | apply ba | apply bd | apply bdr | (refine bs ?_ (by first | (simp; done) | (simp; omega))) | (refine bt ?_ (by assumption)))⟩

theorem make_high (n s : Int) (hs : 9 < s) (w0 : World) : Calls Tryd.prog 11 #[.int .i64 n, .int .i64 s] w0 fun e w' => e = .returned (.tuple #[.agg #[.int .i64 0, .int .i64 0], .int .i64 2]) ∧ Below w0.heap.size w0 w' := by
  have h0 : ¬ s < 0 := by omega
  go_enter Tryd.func11, Tryd.ntmps11
  go_wp2
  exact bodyPost_ret (v := .tuple #[.agg #[.int .i64 0, .int .i64 0], .int .i64 2]) (by simp [results, Tryd.results11, go_sem, *]) rfl ⟨rfl, by repeat (first | exact Below.refl _ _ | apply ba | apply bd | apply bdr | (refine bs ?_ (by first | (simp; done) | (simp; omega))) | (refine bt ?_ (by assumption)))⟩

theorem make_any (n : Int) (s : Nat) (hn : InI n) (hs : s ≤ 9) (w0 : World) : Calls Tryd.prog 11 #[.int .i64 n, .int .i64 s] w0 fun e w' => e = .returned (outV (fitZ n s)) ∧ Below w0.heap.size w0 w' := by
  have W : Hid (Gives 33 #[.int .i64 n] (wv n)) := gives_unfold fun w => wideOf_any n hn.1 hn.2 w
  have F := gf (z := n) (s := s) (by have := hn.1; omega) (by have := hn.2; omega) (by omega)
  have h0 : ¬ (s : Int) < 0 := by omega
  have h9 : ¬ (9 : Int) < (s : Int) := by omega
  generalize fitZ n s = r at *
  unfold outV at *
  generalize outN r = a at *
  generalize outK r = b at *
  generalize outE r = c at *
  unfold wv at *
  go_enter Tryd.func11, Tryd.ntmps11
  go_wp2_with (first
    | (go_at_call 33; refine (W.out.call _).mono ?_; rintro e w1 ⟨rfl, hb1⟩; obtain ⟨hc1, hf1⟩ := bcell hb1; have z1 : w0.heap.size < w1.heap.size := zz hb1 (by first | assumption | (simp; done) | (simp; omega)))
    | (go_at_call 32; refine (F.out.call _).mono ?_; rintro e w2 ⟨rfl, hb2⟩; obtain ⟨hc2, hf2⟩ := bcell hb2; have z2 : w0.heap.size < w2.heap.size := zz hb2 (by first | assumption | (simp; done) | (simp; omega))))
  exact bodyPost_ret (v := .tuple #[.agg #[.int .i64 a, .int .i64 b], .int .i64 c]) (by simp [results, Tryd.results11, go_sem, *]) rfl ⟨rfl, by repeat (first | exact Below.refl _ _ | apply ba | apply bd | apply bdr | (refine bs ?_ (by first | (simp; done) | (simp; omega))) | (refine bt ?_ (by assumption)))⟩
theorem low_field (a b : Int) : ∀ w : World, (Instr.field 56 (.agg #[.int .u64 a, .int .u64 b]) 1).run Tryd.prog w = .ok (.int .u64 b) w := fun _ => by kernel_rfl
theorem fdiv_parts (n p : Int) (hp : 0 < p) : (n.tmod p < 0 → n.tdiv p - 1 = n / p ∧ n.tmod p + p = n % p) ∧ (¬ n.tmod p < 0 → n.tdiv p = n / p ∧ n.tmod p = n % p) := by
  have a := Int.mul_tdiv_add_tmod n p
  have c := Int.emod_nonneg n (by omega : p ≠ 0)
  have d := Int.emod_lt_of_pos n hp
  have e : -p < n.tmod p ∧ n.tmod p < p := by
    obtain ⟨_, e2⟩ := tdiv_size n p (by omega)
    rw [← e2]
    have hpn : ¬ p < 0 := by omega
    by_cases h : n < 0
    · have x := Int.emod_nonneg (-n) (by omega : p ≠ 0); have y := Int.emod_lt_of_pos (-n) hp
      simp only [h, hpn, decide_true, if_true, if_false]; omega
    · have y := Int.emod_lt_of_pos n hp
      simp only [h, hpn, decide_false, if_false, Bool.false_eq_true]; omega
  constructor
  · intro h
    have k : n = p * (n.tdiv p - 1) + (n.tmod p + p) := by rw [Int.mul_sub]; omega
    have k1 := Int.ediv_emod_unique (a := n) (b := p) (r := n.tmod p + p) (q := n.tdiv p - 1) hp
    have := k1.2 ⟨by omega, by omega, by omega⟩
    exact ⟨this.1.symm, this.2.symm⟩
  · intro h
    have k1 := Int.ediv_emod_unique (a := n) (b := p) (r := n.tmod p) (q := n.tdiv p) hp
    have := k1.2 ⟨by omega, by omega, by omega⟩
    exact ⟨this.1.symm, this.2.symm⟩
set_option maxRecDepth 100000 in
set_option maxHeartbeats 2000000 in
theorem parts_any (n : Int) (k : Nat) (h : RightZ n k) (w0 : World) :
    Calls Tryd.prog 55 #[nv n k] w0 fun e w' => e = .returned (.tuple #[.int .i64 (n / 10 ^ k), .agg #[.int .i64 (n % 10 ^ k), .int .i64 k]]) ∧ Below w0.heap.size w0 w' := by
  obtain ⟨i1, i2⟩ := rz_inI h
  have R := fun w t g cap hg => right_one n k i1 i2 w t g cap hg
  rw [rightB_of h] at R
  have hk := h.2.2.1
  have PW : Hid (Gives 48 #[.int .i64 (k : Int)] (wv (10 ^ k))) := gives_unfold fun w => power_any k (by omega) w
  have p1 := ten_pos k
  have p2 := pow9 k hk
  have hn1 := h.1
  have hn2 := h.2.1
  have fp := fdiv_parts n (10 ^ k) p1
  obtain ⟨q1, q2⟩ := tdiv_bd n (10 ^ k) p1 (by omega) (by omega)
  have eb : -999999999999999999 ≤ n.tdiv (10 ^ k) ∧ n.tdiv (10 ^ k) ≤ 999999999999999999 := by
    obtain ⟨e1, _⟩ := tdiv_size n (10 ^ k) (by omega)
    have hpn : ¬ (10 : Int) ^ k < 0 := by omega
    rw [← e1]
    by_cases hn : n < 0
    · have x := Int.ediv_nonneg (a := -n) (b := 10 ^ k) (by omega) (by omega); have y := Int.ediv_le_self (a := -n) (10 ^ k) (by omega)
      simp only [hn, hpn, decide_true, decide_false, if_true, if_false, bne]; simp; omega
    · have x := Int.ediv_nonneg (a := n) (b := 10 ^ k) (by omega) (by omega); have y := Int.ediv_le_self (a := n) (10 ^ k) (by omega)
      simp only [hn, hpn, decide_false, if_false, bne]; simp; omega
  have er : -(10 ^ k : Int) ≤ n.tmod (10 ^ k) ∧ n.tmod (10 ^ k) < 10 ^ k := by
    have d := Int.emod_lt_of_pos n p1
    have c := Int.emod_nonneg n (by omega : (10 ^ k : Int) ≠ 0)
    by_cases hh : n.tmod (10 ^ k) < 0
    · have := fp.1 hh; omega
    · have := fp.2 hh; omega
  have HR := Lib.hid R
  clear R h i1 i2
  obtain ⟨q, hq⟩ : ∃ q, n / 10 ^ k = q := ⟨_, rfl⟩
  obtain ⟨d, hd⟩ : ∃ d, n % 10 ^ k = d := ⟨_, rfl⟩
  rw [hq, hd] at fp ⊢
  clear hq hd
  generalize (10 : Int) ^ k = p at *
  have hlow : IntKind.i64.wrap (lo p) = p := by rw [IntKind.wrap_i64]; unfold lo; omega
  have wq : IntKind.i64.wrap (n.tdiv p) = n.tdiv p := by rw [IntKind.wrap_i64]; omega
  have wr : IntKind.i64.wrap (n.tmod p) = n.tmod p := by rw [IntKind.wrap_i64]; omega
  obtain ⟨x, hx⟩ : ∃ x, n.tdiv p = x := ⟨_, rfl⟩
  obtain ⟨y, hy⟩ : ∃ y, n.tmod p = y := ⟨_, rfl⟩
  rw [hx] at fp eb
  rw [hy] at fp er
  have wq' : IntKind.i64.wrap (n.tdiv p) = x := by rw [wq, hx]
  clear wq wr hx q1 q2
  have pn : ¬ p = 0 := by omega
  have hfd := low_field (hi p) (lo p)
  unfold nv wv at *
  by_cases hyn : y < 0
  · obtain ⟨f1, f2⟩ := fp.1 hyn
    have ws : IntKind.i64.wrap (x - 1) = q := by rw [IntKind.wrap_i64]; omega
    have wt : IntKind.i64.wrap (y + p) = d := by rw [IntKind.wrap_i64]; omega
    clear fp f1 f2
    go_enter Tryd.func55, Tryd.ntmps55
    go_wp2_with (first
    | (go_at_call 9; refine (HR.out _ _ _ _ (by simp)).mono ?_; rintro e w1 ⟨rfl, hb1⟩; obtain ⟨hc1, hf1⟩ := bcell hb1; have z1 : w0.heap.size + 1 < w1.heap.size := zz hb1 (by first | assumption | (simp; done) | (simp; omega)); have z10 : w0.heap.size < w1.heap.size := (by omega))
    | (go_at_call 48; refine (PW.out.call _).mono ?_; rintro e w2 ⟨rfl, hb2⟩; obtain ⟨hc2, hf2⟩ := bcell hb2; have z2 : w0.heap.size + 1 < w2.heap.size := zz hb2 (by first | assumption | (simp; done) | (simp; omega)); have z20 : w0.heap.size < w2.heap.size := (by omega)))
    go_quiet (fail)
    go_wp2
    go_region
    all_goals go_wp2
    all_goals exact bodyPost_ret (v := .tuple #[.int .i64 q, .agg #[.int .i64 d, .int .i64 k]]) (by simp [results, Tryd.results55, go_sem, *]) rfl ⟨rfl, by repeat (first | exact Below.refl _ _ | apply ba | apply bd | apply bdr | (refine bs ?_ (by first | (simp; done) | (simp; omega))) | (refine bt ?_ (by assumption)))⟩
  · obtain ⟨f1, f2⟩ := fp.2 hyn
    subst f1
    subst f2
    clear fp
    go_enter Tryd.func55, Tryd.ntmps55
    go_wp2_with (first
    | (go_at_call 9; refine (HR.out _ _ _ _ (by simp)).mono ?_; rintro e w1 ⟨rfl, hb1⟩; obtain ⟨hc1, hf1⟩ := bcell hb1; have z1 : w0.heap.size + 1 < w1.heap.size := zz hb1 (by first | assumption | (simp; done) | (simp; omega)); have z10 : w0.heap.size < w1.heap.size := (by omega))
    | (go_at_call 48; refine (PW.out.call _).mono ?_; rintro e w2 ⟨rfl, hb2⟩; obtain ⟨hc2, hf2⟩ := bcell hb2; have z2 : w0.heap.size + 1 < w2.heap.size := zz hb2 (by first | assumption | (simp; done) | (simp; omega)); have z20 : w0.heap.size < w2.heap.size := (by omega)))
    go_quiet (fail)
    go_wp2
    go_region
    all_goals go_wp2
    all_goals exact bodyPost_ret (v := .tuple #[.int .i64 x, .agg #[.int .i64 y, .int .i64 k]]) (by simp [results, Tryd.results55, go_sem, *]) rfl ⟨rfl, by repeat (first | exact Below.refl _ _ | apply ba | apply bd | apply bdr | (refine bs ?_ (by first | (simp; done) | (simp; omega))) | (refine bt ?_ (by assumption)))⟩
end Go.Proofs
