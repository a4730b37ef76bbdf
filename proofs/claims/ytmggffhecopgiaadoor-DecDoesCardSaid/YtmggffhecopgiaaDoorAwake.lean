/- The examples of the document hold; the reference tells right numbers. No condition beyond what the theorems state. -/
import Derived.Test.YtmggffhecopgiaaDoorFormats
namespace Go.Proofs
open Go.Shelf Go.RowKit Go.Proofs.Wide
theorem ex_parse : parseZ [49, 46, 53, 48] = (15, 1, 0) := by decide +kernel
theorem ex_div : divZ 1 0 3 0 = some (333333333, 9) := by decide +kernel
theorem ex_format : formatL (-5) 1 = [45, 48, 46, 53] := by
  unfold formatL sgn padL
  rw [show (-5 : Int).natAbs = 5 from rfl, Lib.decDigits_one (by decide : 5 < 10)]
  decide +kernel
theorem ex_round : roundZ (-25) 1 = -2 := by decide +kernel
set_option maxRecDepth 100000 in
set_option maxHeartbeats 2000000 in
theorem awake_any (w0 : World) : Calls Tryd.prog 8 #[] w0 fun e w' => e = .returned (.bool true) ∧ Below w0.heap.size w0 w' := by
  have r1 : RightZ 1 0 := by unfold RightZ; omega
  have r3 : RightZ 3 0 := by unfold RightZ; omega
  have r5 : RightZ (-5) 1 := by unfold RightZ; omega
  have r25 : RightZ (-25) 1 := by unfold RightZ; omega
  have HP : Hid (Gives 14 #[.string ⟨#[49, 46, 53, 48]⟩] (.tuple #[.agg #[.int .i64 15, .int .i64 1], .int .i64 0])) := gives_unfold fun w => by
    have := parse_any [49, 46, 53, 48] (by decide) w
    rw [ex_parse] at this
    exact this
  have HD : Hid (Gives 21 #[.agg #[.int .i64 1, .int .i64 0], .agg #[.int .i64 3, .int .i64 0]] (.tuple #[.agg #[.int .i64 333333333, .int .i64 9], .int .i64 0])) := gives_unfold fun w => by
    have := div_any 1 3 0 0 r1 r3 (by decide) w
    rw [ex_div] at this
    exact this
  have HF : Hid (Gives 16 #[.agg #[.int .i64 (-5), .int .i64 1]] (.string ⟨#[45, 48, 46, 53]⟩)) := gives_unfold fun w => by
    have := format_small (-5) 1 r5 (by decide) w
    rw [ex_format] at this
    exact this
  have HR : Hid (Gives 29 #[.agg #[.int .i64 (-25), .int .i64 1]] (.agg #[.int .i64 (-2), .int .i64 0])) := gives_unfold fun w => by
    have := round_any (-25) 1 r25 w
    rw [ex_round] at this
    exact this
  clear r1 r3 r5 r25
  go_enter Tryd.func8, Tryd.ntmps8
  go_wp2_with (first
    | (go_at_call 14; refine (HP.out.call _).mono ?_; rintro e w1 ⟨rfl, hb1⟩)
    | (go_at_call 21; refine (HD.out.call _).mono ?_; rintro e w2 ⟨rfl, hb2⟩; obtain ⟨hc2, hf2⟩ := bcell hb2; have z2 : w1.heap.size < w2.heap.size := zz hb2 (by simp))
    | (go_at_call 16; refine (HF.out.call _).mono ?_; rintro e w3 ⟨rfl, hb3⟩)
    | (go_at_call 29; refine (HR.out.call _).mono ?_; rintro e w4 ⟨rfl, hb4⟩))
  go_ret
  exact ⟨rfl, by repeat (first | exact Below.refl _ _ | apply ba | apply bd | apply bdr | (refine bs ?_ (by first | (simp; done) | (simp; omega))) | (refine bt ?_ (by assumption)))⟩

set_option maxHeartbeats 2000000 in
theorem refRight_any (n q : Int) (hn : InI n) (hq : InI q) (w : World) : Calls Tryd.prog 31 #[.int .i64 n, .int .i64 q] w fun e w' => e = .returned (.bool (rightB (n, q))) ∧ w = w' := by
  obtain ⟨i1, i2⟩ := hn
  obtain ⟨i3, i4⟩ := hq
  by_cases h1 : -999999999999999999 ≤ n
  by_cases h2 : n ≤ 999999999999999999
  by_cases h3 : 0 ≤ q
  by_cases h4 : q ≤ 9
  by_cases h5 : q = 0
  · have hr : rightB (n, q) = true := by unfold rightB; simp; omega
    rw [hr]
    clear hr
    go_enter Tryd.func31, Tryd.ntmps31
    go_wp2
    go_ret
    exact ⟨rfl, rfl⟩
  · have ht := tm10 n
    have hw : IntKind.i64.wrap (n.tmod 10) = n.tmod 10 := by
      have := (tdiv10 n); rw [IntKind.wrap_i64]
      by_cases h : n % 10 = 0
      · rw [(this.1 h).2]; omega
      · have := this.2 h; omega
    obtain ⟨m, hm⟩ : ∃ m, n.tmod 10 = m := ⟨_, rfl⟩
    rw [hm] at ht hw
    have hw' : IntKind.i64.wrap (n.tmod 10) = m := by rw [hm]; exact hw
    by_cases h6 : m = 0
    · have hr : rightB (n, q) = false := by have := ht.1 h6; unfold rightB; simp; omega
      rw [hr]
      subst h6
      clear ht hr hw
      go_enter Tryd.func31, Tryd.ntmps31
      go_wp2
      go_ret
      exact ⟨ret_bool (by simp [h5]), rfl⟩
    · have hr : rightB (n, q) = true := by have : ¬ n % 10 = 0 := fun h => h6 (ht.2 h); unfold rightB; simp; omega
      rw [hr]
      clear ht hr
      go_enter Tryd.func31, Tryd.ntmps31
      go_wp2
      go_ret
      exact ⟨ret_bool (by simp [h5, h6]), rfl⟩
  · have hr : rightB (n, q) = false := by unfold rightB; simp; omega
    rw [hr]
    clear hr
    go_enter Tryd.func31, Tryd.ntmps31
    go_wp2
    go_ret
    exact ⟨rfl, rfl⟩
  · have hr : rightB (n, q) = false := by unfold rightB; simp; omega
    rw [hr]
    clear hr
    go_enter Tryd.func31, Tryd.ntmps31
    go_wp2
    go_ret
    exact ⟨rfl, rfl⟩
  · have hr : rightB (n, q) = false := by unfold rightB; simp; omega
    rw [hr]
    clear hr
    go_enter Tryd.func31, Tryd.ntmps31
    go_wp2
    go_ret
    exact ⟨rfl, rfl⟩
  · have hr : rightB (n, q) = false := by unfold rightB; simp; omega
    rw [hr]
    clear hr
    go_enter Tryd.func31, Tryd.ntmps31
    go_wp2
    go_ret
    exact ⟨rfl, rfl⟩

theorem right_law (n q : Int) (hn : InI n) (hq : InI q) (w0 : World) : Calls Tryd.prog 10 #[nv n q] w0 fun e w' => e = .returned (.bool (rightB (n, q))) ∧ Below w0.heap.size w0 w' := by
  unfold nv
  go_enter Tryd.func10, Tryd.ntmps10
  go_wp2_with (go_at_call 31; refine (refRight_any n q hn hq _).mono ?_; rintro e w' ⟨rfl, rfl⟩)
  go_ret
  exact ⟨rfl, ba (Below.refl _ _)⟩
end Go.Proofs
