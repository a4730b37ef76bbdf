/- The statement AtomNumbers. No condition beyond what the theorems state. -/
import Derived.Test.YtemgabmafmehnaaGreatDoorLwNumbersA
import Derived.Test.YtemgabmafmehnaaGreatDoorLwNumbersB
import Derived.Test.YtemgabmafmehnaaGreatDoorLwNumbersC
import Derived.Test.YtemgabmafmehnaaGreatDoorLwNumbersD
import Derived.Test.YtemgabmafmehnaaGreatDoorDeSums
import Derived.Test.YtemgabmafmehnaaGreatDoorCmOrdered
namespace Go.Proofs.YtemgabmafmehnaaGreatDoor
open Go.Shelf Go.RowKit Go.Proofs.Wide Go.Proofs.Dig
set_option maxRecDepth 100000
set_option maxHeartbeats 4000000
theorem tmod_sides (n P : Int) (hP : 0 < P) : -P < n.tmod P ∧ n.tmod P < P ∧ (0 < n.tmod P → 0 < n) ∧ (n.tmod P < 0 → n < 0) := by
  by_cases h : 0 ≤ n
  · rw [Int.tmod_eq_emod_of_nonneg h]
    have h1 := Int.emod_nonneg n (Int.ne_of_gt hP)
    have h2 := Int.emod_lt_of_pos n hP
    refine ⟨by omega, h2, fun h3 => ?_, by omega⟩
    rcases Int.lt_or_eq_of_le h with h4 | h4
    · exact h4
    · rw [← h4] at h3; simp at h3
  · have e : n.tmod P = -((-n).tmod P) := by rw [Int.neg_tmod]; omega
    rw [e, Int.tmod_eq_emod_of_nonneg (by omega)]
    have h1 := Int.emod_nonneg (-n) (Int.ne_of_gt hP)
    have h2 := Int.emod_lt_of_pos (-n) hP
    omega
theorem rest_spec (n : Int) (c : Nat) (h : RightZ n c) : ∃ rn rk, subZ n c (n.tdiv (10 ^ c)) 0 = some (rn, rk) ∧ RightZ rn rk ∧ v9 rn rk = n.tmod (10 ^ c) * 10 ^ (9 - c) := by
  obtain ⟨n1, n2, hc, _⟩ := h
  have hP := ten_pos c
  have hd := Int.mul_tdiv_add_tmod n (10 ^ c)
  have hs := tmod_sides n _ hP
  have e : subZ n c (n.tdiv (10 ^ c)) 0 = fitZ (n.tmod (10 ^ c)) c := by
    unfold subZ
    have s0 : sc c 0 = c := by unfold sc; omega
    have x1 : lx n c 0 = n := by unfold lx; rw [s0]; simp
    have x2 : lx (n.tdiv (10 ^ c)) 0 c = 10 ^ c * n.tdiv (10 ^ c) := by unfold lx; rw [sc_comm', s0]; simp [Int.mul_comm]
    rw [s0, x1, x2]
    congr 1
    omega
  have p9 := pow9 c hc
  obtain ⟨rn, rk, hf⟩ := fit_small (n.tmod (10 ^ c)) c hc (by omega) (by omega)
  have := (fit_some _ _ _ _ hc).1 hf
  exact ⟨rn, rk, e.trans hf, this.1, this.2⟩
theorem rest_within (n : Int) (c : Nat) (h : RightZ n c) (rn : Int) (rk : Nat) (hr : RightZ rn rk) (hv : v9 rn rk = n.tmod (10 ^ c) * 10 ^ (9 - c)) :
    cmpZ rn rk 1 0 < 0 ∧ 0 < cmpZ rn rk (-1) 0 ∧ (rn = 0 ∨ (rn ≠ 0 ∧ decide (0 < rn) = decide (0 < n))) := by
  obtain ⟨_, _, hc, _⟩ := h
  have hP := ten_pos c
  have hQ := ten_pos (9 - c)
  have hR := ten_pos (9 - rk)
  obtain ⟨s1, s2, s3, s4⟩ := tmod_sides n _ hP
  have e9 : (10 : Int) ^ c * 10 ^ (9 - c) = 1000000000 := by rw [← Int.pow_add, show c + (9 - c) = 9 by omega]; rfl
  have u1 : v9 rn rk < 1000000000 := by rw [hv, ← e9]; exact Int.mul_lt_mul_of_pos_right s2 hQ
  have u2 : -1000000000 < v9 rn rk := by
    rw [hv, ← e9, ← Int.neg_mul]; exact Int.mul_lt_mul_of_pos_right s1 hQ
  refine ⟨?_, ?_, ?_⟩
  · rw [cmp_eq hr.2.2.1 (by omega), show v9 1 0 = 1000000000 from rfl, if_pos u1]; decide
  · rw [cmp_eq hr.2.2.1 (by omega), show v9 (-1) 0 = -1000000000 from rfl, if_neg (by omega), if_neg (by omega)]; decide
  · rcases Int.lt_trichotomy rn 0 with h0 | h0 | h0
    · right
      have h1 : v9 rn rk < 0 := Int.mul_neg_of_neg_of_pos h0 hR
      have h2 : n.tmod (10 ^ c) < 0 := by
        rcases (by omega : n.tmod (10 ^ c) < 0 ∨ 0 ≤ n.tmod (10 ^ c)) with h2 | h2
        · exact h2
        · have := Int.mul_nonneg h2 (Int.le_of_lt hQ); omega
      have := s4 h2
      exact ⟨by omega, by rw [decide_eq_false (by omega), decide_eq_false (by omega)]⟩
    · exact .inl h0
    · right
      have h1 : 0 < v9 rn rk := Int.mul_pos h0 hR
      have h2 : 0 < n.tmod (10 ^ c) := by
        rcases (by omega : 0 < n.tmod (10 ^ c) ∨ n.tmod (10 ^ c) ≤ 0) with h2 | h2
        · exact h2
        · have := Int.mul_nonpos_of_nonpos_of_nonneg h2 (Int.le_of_lt hQ); omega
      have := s3 h2
      exact ⟨by omega, by rw [decide_eq_true h0, decide_eq_true this]⟩
theorem neg_right : RightZ (-1) 0 := ⟨by decide, by decide, by decide, .inl rfl⟩
theorem numbers_law (k n c : Int) (l : List UInt8) (b : Bool) (hn : InI n) (hc : InI c) (hl : l.length ≤ 1048576) (w : World) (hT : TT w) : Calls Tryz.prog 6 #[.agg #[.int .i64 k, .int .i64 n, .int .i64 c, .string (ba' l), .bool b]] w fun e w' => e = .returned (.bool true) ∧ Below w.heap.size w w' := by
  rcases refR_cases k n c l b hn hc hl with ⟨a, ha, e, HR⟩ | HR
  · rw [e]
    cases a with
    | int m =>
      have hB := cast_av (.int m) ha 4
      have hI := cast_av (.int m) ha 1
      have hD := cast_av (.int m) ha 2
      obtain ⟨rn, rk, hs, hR, hv⟩ := rest_spec m 0 ha
      have hq : RightZ m 0 := ha
      obtain ⟨hx, hy, hg⟩ := rest_within m 0 ha rn rk hR hv
      rw [tdiv0] at hs
      have HS : Hid (Gives 27 #[.agg #[.int .i64 m, .int .i64 ((0 : Nat) : Int)], .agg #[.int .i64 m, .int .i64 ((0 : Nat) : Int)]] (outV (subZ m 0 m 0))) := gives_unfold fun w => sub_any m m 0 0 ha hq w
      rw [hs] at HS
      have hr : decide (m ≠ 0) = (m != 0) := by by_cases h : m = 0 <;> simp [h]
      have NA : Hid (GT 23 #[.agg #[.int .i64 1, .int .i64 m, .int .i64 0, .string ⟨#[]⟩, .bool false]] (.agg #[.int .i64 m, .int .i64 0])) := gt_of fun w _ => atNum_int' m 0 ⟨#[]⟩ false w
      have NQ : Hid (GT 23 #[.agg #[.int .i64 1, .int .i64 m, .int .i64 0, .string ⟨#[]⟩, .bool false]] (.agg #[.int .i64 m, .int .i64 0])) := gt_of fun w _ => atNum_int' m 0 ⟨#[]⟩ false w
      have ND : Hid (GT 23 #[.agg #[.int .i64 2, .int .i64 m, .int .i64 0, .string ⟨#[]⟩, .bool false]] (.agg #[.int .i64 m, .int .i64 0])) := gt_of fun w _ => atNum_dec' m 0 ⟨#[]⟩ false w
      have H1 := cmp_gt hR one_right
      have H2 := cmp_gt hR neg_right
      rcases hg with h0 | ⟨h0, h1⟩
      · subst h0
        have hk0 := zero_dec hR rfl
        subst hk0
        exact numbers_core1z m 0 ⟨#[]⟩ false m _ _ (decide (m ≠ 0)) w hT HR hB hI hD NA NQ ND HS H1 H2 hr hx hy
      · exact numbers_core1 m 0 ⟨#[]⟩ false m rn (rk : Int) _ _ (decide (m ≠ 0)) w hT HR hB hI hD NA NQ ND HS H1 H2 hr hx hy h0 h1
    | dec m d =>
      have hB := cast_av (.dec m d) ha 4
      have hI := cast_av (.dec m d) ha 1
      have hD := cast_av (.dec m d) ha 2
      obtain ⟨rn, rk, hs, hR, hv⟩ := rest_spec m d ha
      have hq : RightZ (m.tdiv (10 ^ d)) 0 := right_whole ha
      obtain ⟨hx, hy, hg⟩ := rest_within m d ha rn rk hR hv
      skip
      have HS : Hid (Gives 27 #[.agg #[.int .i64 m, .int .i64 ((d : Nat) : Int)], .agg #[.int .i64 (m.tdiv (10 ^ d)), .int .i64 ((0 : Nat) : Int)]] (outV (subZ m d (m.tdiv (10 ^ d)) 0))) := gives_unfold fun w => sub_any m (m.tdiv (10 ^ d)) d 0 ha hq w
      rw [hs] at HS
      have hr : decide (m ≠ 0) = (m != 0) := by by_cases h : m = 0 <;> simp [h]
      have NA : Hid (GT 23 #[.agg #[.int .i64 2, .int .i64 m, .int .i64 (d : Int), .string ⟨#[]⟩, .bool false]] (.agg #[.int .i64 m, .int .i64 (d : Int)])) := gt_of fun w _ => atNum_dec' m (d : Int) ⟨#[]⟩ false w
      have NQ : Hid (GT 23 #[.agg #[.int .i64 1, .int .i64 (m.tdiv (10 ^ d)), .int .i64 0, .string ⟨#[]⟩, .bool false]] (.agg #[.int .i64 (m.tdiv (10 ^ d)), .int .i64 0])) := gt_of fun w _ => atNum_int' (m.tdiv (10 ^ d)) 0 ⟨#[]⟩ false w
      have ND : Hid (GT 23 #[.agg #[.int .i64 2, .int .i64 m, .int .i64 (d : Int), .string ⟨#[]⟩, .bool false]] (.agg #[.int .i64 m, .int .i64 (d : Int)])) := gt_of fun w _ => atNum_dec' m (d : Int) ⟨#[]⟩ false w
      have H1 := cmp_gt hR one_right
      have H2 := cmp_gt hR neg_right
      rcases hg with h0 | ⟨h0, h1⟩
      · subst h0
        have hk0 := zero_dec hR rfl
        subst hk0
        exact numbers_core2z m (d : Int) ⟨#[]⟩ false (m.tdiv (10 ^ d)) _ _ (decide (m ≠ 0)) w hT HR hB hI hD NA NQ ND HS H1 H2 hr hx hy
      · exact numbers_core2 m (d : Int) ⟨#[]⟩ false (m.tdiv (10 ^ d)) rn (rk : Int) _ _ (decide (m ≠ 0)) w hT HR hB hI hD NA NQ ND HS H1 H2 hr hx hy h0 h1
    | str u => exact numbers_noK 3 0 0 (ba' u) false w hT HR (by decide) (by decide)
    | boo x => exact numbers_noK 4 0 0 ⟨#[]⟩ x w hT HR (by decide) (by decide)
    | raw u => exact numbers_noK 5 0 0 (ba' u) false w hT HR (by decide) (by decide)
  · exact numbers_noR k n c (ba' l) b w hT HR
end Go.Proofs.YtemgabmafmehnaaGreatDoor
