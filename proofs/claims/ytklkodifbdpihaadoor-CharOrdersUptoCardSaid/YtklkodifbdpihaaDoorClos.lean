/- The two literals that Valid and Name hand on answer what plain predicates say. No condition beyond what the theorems state. -/
import Derived.Test.YtklkodifbdpihaaDoorNameRef
import Derived.Test.YtklkodifbdpihaaDoorNormRef
import Derived.Laws.RangeAny
import Derived.Lib.RuneCount
import Derived.Lib.OthersKept
import Derived.Shelf.GgClosure.Gives
namespace Go.Proofs.YtklkodifbdpihaaDoor
open Go.RowKit Go.Lib
set_option maxRecDepth 100000
set_option maxHeartbeats 1000000 in
theorem validOne_any (k a : Int) (r : Nat) (hr : r ≤ 1114111) (w : World) : Calls Tryd.prog 29 #[.int .i64 k, .int .i64 a, .int .i32 r] w fun e w' => e = .returned (.bool (xmlN r)) ∧ w = w' := by
  have H := Lib.hid (listed_any (r : Int))
  rw [show xmlB (r : Int) = xmlN r from rfl] at H
  go_enter Tryd.func29, Tryd.ntmps29
  go_wp2_with (go_at_call 30; refine (H.out _).mono ?_; rintro e w' ⟨rfl, rfl⟩)
  go_ret
  exact ⟨rfl, rfl⟩
def okB (k r : Nat) : Bool := decide (okP k r)
set_option maxHeartbeats 1000000 in
theorem nameOne_any (k : Nat) (a : Int) (r : Nat) (_hr : r ≤ 1114111) (w : World) : Calls Tryd.prog 31 #[.int .i64 k, .int .i64 a, .int .i32 r] w fun e w' => e = .returned (.bool (okB k r)) ∧ w = w' := by
  cases hL : letterB (r : Int)
  · have H := Lib.hid (letter_any (r : Int))
    rw [hL] at H
    rcases Nat.eq_zero_or_pos k with rfl | hk
    · have E : Hid (okB 0 r = false) := Lib.hid (by
        have h : ¬ letterP (r : Int) := by rw [← letterB_iff, hL]; simp
        unfold okB; rw [decide_eq_false_iff_not]; unfold okP
        intro h'; rcases h' with h' | h'
        · exact h h'
        · exact absurd h'.1 (by omega))
      clear hL
      go_enter Tryd.func31, Tryd.ntmps31
      go_wp2_with (go_at_call 32; refine (H.out _).mono ?_; rintro e w' ⟨rfl, rfl⟩)
      go_ret
      exact ⟨ret_bool E.out.symm, rfl⟩
    · have H2 := Lib.hid (follows_any (r : Int))
      have E : Hid (okB k r = followB (r : Int)) := Lib.hid (by
        have : ¬ letterP (r : Int) := by rw [← letterB_iff, hL]; simp
        rw [Bool.eq_iff_iff, followB_iff]; unfold okB; rw [decide_eq_true_iff]; unfold okP
        constructor
        · intro h; rcases h with h | h; exact absurd h this; exact h.2
        · intro h; exact .inr ⟨hk, h⟩)
      clear hL
      go_enter Tryd.func31, Tryd.ntmps31
      go_wp2_with (first | (go_at_call 32; refine (H.out _).mono ?_; rintro e w' ⟨rfl, rfl⟩) | (go_at_call 33; refine (H2.out _).mono ?_; rintro e w' ⟨rfl, rfl⟩))
      go_ret
      exact ⟨ret_bool E.out.symm, rfl⟩
  · have H := Lib.hid (letter_any (r : Int))
    rw [hL] at H
    have E : Hid (okB k r = true) := Lib.hid (by unfold okB; rw [decide_eq_true_iff]; exact .inl ((letterB_iff _).1 hL))
    clear hL
    go_enter Tryd.func31, Tryd.ntmps31
    go_wp2_with (go_at_call 32; refine (H.out _).mono ?_; rintro e w' ⟨rfl, rfl⟩)
    go_ret
    exact ⟨ret_bool E.out.symm, rfl⟩
end Go.Proofs.YtklkodifbdpihaaDoor
