/- The statement DecRounds answers true at every number and every row of numbers. No condition beyond what the theorems state. -/
import Derived.Test.YtmggffhecopgiaaDoorRoundsCore
import Derived.Test.YtmggffhecopgiaaDoorLawOrders
namespace Go.Proofs
open Go.Shelf Go.RowKit Go.Proofs.Wide
set_option maxRecDepth 100000 in
set_option maxHeartbeats 4000000 in
/-- Where the number is not right, or there are more than 500: what the examples say. -/
theorem rounds_not (n k : Int) (L : List (Int × Int)) (gg : Option Addr) (cap : Nat) (w0 : World) (W : Hid (Gives 8 #[] (.bool true))) (R1 : Hid (Gives 10 #[.agg #[.int .i64 n, .int .i64 k]] (.bool false))) :
    Calls Tryd.prog 6 #[nv n k, .slice gg L.length cap] w0 fun e w' => e = .returned (.bool true) ∧ Below w0.heap.size w0 w' := by
  unfold nv
  go_enter Tryd.func6, Tryd.ntmps6
  go_upto_region 2 with (first
    | (go_at_call 8; refine (W.out.call _).mono ?_; rintro e w1 ⟨rfl, hb1⟩; have A1 : Own w1 w0.heap.size (.int .i64 n) (.int .i64 k) := (Own.new_at (by simp)).call hb1; obtain ⟨_, _, _, _⟩ := id A1)
    | (go_at_call 10; refine (R1.out.call _).mono ?_; rintro e w2 ⟨rfl, hb2⟩))
  go_wp2_with (go_at_call 8; refine (W.out.call _).mono ?_; rintro e w9 ⟨rfl, hb9⟩)
  all_goals go_ret
  all_goals exact ⟨rfl, by repeat (first | exact Below.refl _ _ | apply ba | (refine bt ?_ (by assumption)))⟩
set_option maxRecDepth 100000 in
set_option maxHeartbeats 4000000 in
theorem rounds_many (n k : Int) (L : List (Int × Int)) (h5 : 500 < L.length) (gg : Option Addr) (cap : Nat) (w0 : World) (W : Hid (Gives 8 #[] (.bool true))) (R1 : Hid (Gives 10 #[.agg #[.int .i64 n, .int .i64 k]] (.bool true))) :
    Calls Tryd.prog 6 #[nv n k, .slice gg L.length cap] w0 fun e w' => e = .returned (.bool true) ∧ Below w0.heap.size w0 w' := by
  unfold nv
  have hl5 : decide ((500 : Int) < (L.length : Int)) = true := by simp; omega
  go_enter Tryd.func6, Tryd.ntmps6
  go_upto_region 2 with (first
    | (go_at_call 8; refine (W.out.call _).mono ?_; rintro e w1 ⟨rfl, hb1⟩; have A1 : Own w1 w0.heap.size (.int .i64 n) (.int .i64 k) := (Own.new_at (by simp)).call hb1; obtain ⟨_, _, _, _⟩ := id A1)
    | (go_at_call 10; refine (R1.out.call _).mono ?_; rintro e w2 ⟨rfl, hb2⟩))
  go_wp2_with (go_at_call 8; refine (W.out.call _).mono ?_; rintro e w9 ⟨rfl, hb9⟩)
  go_ret
  exact ⟨rfl, by repeat (first | exact Below.refl _ _ | apply ba | (refine bt ?_ (by assumption)))⟩
theorem rounds_law (n k : Int) (L : List (Int × Int)) (A : Option Addr) (cap : Nat) (w : World) (a : InI n) (b : InI k) (hL : ∀ p ∈ L, InI p.1 ∧ InI p.2) (hr : Reads w w.heap.size 2 A L.length (rowL L)) :
    Calls Tryd.prog 6 #[nv n k, .slice A L.length cap] w fun e w' => e = .returned (.bool true) ∧ Below w.heap.size w w' := by
  cases r1 : rightB (n, k) with
  | false => exact rounds_not n k L A cap w wake (gr a b r1)
  | true =>
  by_cases h5 : 500 < L.length
  · exact rounds_many n k L h5 A cap w wake (gr a b r1)
  · have R1 := gr a b r1
    obtain ⟨j, rfl, z⟩ := right_of r1
    obtain ⟨zf, zc, zr, c1, c2, d1, d2, d3, x, xk, y, yk, s1, s2, zx, zy, hw⟩ := round_facts z
    have F : Hid (Gives 27 #[.agg #[.int .i64 n, .int .i64 j]] (.agg #[.int .i64 (floorZ n j), .int .i64 0])) := gives_unfold fun w => floor_any n j z w
    have C : Hid (Gives 28 #[.agg #[.int .i64 n, .int .i64 j]] (.agg #[.int .i64 (ceilZ n j), .int .i64 0])) := gives_unfold fun w => ceil_any n j z w
    have R : Hid (Gives 29 #[.agg #[.int .i64 n, .int .i64 j]] (.agg #[.int .i64 (roundZ n j), .int .i64 0])) := gives_unfold fun w => round_any n j z w
    have S1 : Hid (Gives 19 #[.agg #[.int .i64 n, .int .i64 j], .agg #[.int .i64 (floorZ n j), .int .i64 (0 : Nat)]] (outV (subZ n j (floorZ n j) 0))) := gives_unfold fun w => sub_any n _ j 0 z zf w
    have S2 : Hid (Gives 19 #[.agg #[.int .i64 (ceilZ n j), .int .i64 (0 : Nat)], .agg #[.int .i64 n, .int .i64 j]] (outV (subZ (ceilZ n j) 0 n j))) := gives_unfold fun w => sub_any _ n 0 j zc z w
    rw [s1] at S1
    rw [s2] at S2
    have b1 := zf.1; have b2 := zf.2.1; have b3 := zc.1; have b4 := zc.2.1
    refine rounds_core n j (floorZ n j) (ceilZ n j) (roundZ n j) (cmpZ (floorZ n j) 0 n j) (cmpZ (ceilZ n j) 0 n j) x xk y yk (cmpZ x xk y yk) L hL (by omega) A cap (decide (j = 0)) w hr wake R1 F C R (gc zf z) (gc zc z) (by simp; omega) (by simp; omega)
      (by rw [IntKind.wrap_i64]; omega) (by simp; omega) (by simp; omega) (Lib.hid ?_) S1 S2 (gc zx zy) (hw.elim (fun h => .inl ⟨h.1, h.2.symm⟩) fun h => .inr ⟨h.1, h.2.symm⟩)
    by_cases hj : j = 0
    · exact .inl ⟨d3.2 hj, by omega, by simpa using hj⟩
    · exact .inr ⟨fun h => hj (d3.1 h), by simp; omega, by simpa using hj⟩
end Go.Proofs
