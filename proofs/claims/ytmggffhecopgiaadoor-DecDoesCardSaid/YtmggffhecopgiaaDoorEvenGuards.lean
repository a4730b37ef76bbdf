/- The statement DecEven where a number is not right. No condition beyond what the theorems state. -/
import Derived.Test.YtmggffhecopgiaaDoorLawOrders
namespace Go.Proofs
open Go.Shelf Go.RowKit Go.Proofs.Wide

set_option maxRecDepth 100000 in
set_option maxHeartbeats 4000000 in
theorem even_not0 (n1 k1 n2 k2 : Int) (w0 : World) (W : Hid (Gives 8 #[] (.bool true)))
    (R1 : Hid (Gives 10 #[.agg #[.int .i64 (n1), .int .i64 (k1)]] (.bool false))) :
    Calls Tryd.prog 5 #[nv n1 k1, nv n2 k2] w0 fun e w' => e = .returned (.bool true) ∧ Below w0.heap.size w0 w' := by
  unfold nv
  go_enter Tryd.func5, Tryd.ntmps5
  go_wp2_with fail
  go_at_call 8; refine (W.out.call _).mono ?_; rintro e w1 ⟨rfl, hb1⟩
  have A1 : Own w1 w0.heap.size (.int .i64 n1) (.int .i64 k1) := ((Own.new_at (by simp)).alloc _).call hb1
  have B1 : Own w1 (w0.heap.size + 1) (.int .i64 n2) (.int .i64 k2) := (Own.new_at (by simp)).call hb1
  (have Q := A1; obtain ⟨_, _, _, _⟩ := Q)
  (have Q := B1; obtain ⟨_, _, _, _⟩ := Q)
  go_wp2_with fail
  go_at_call 10; refine (R1.out.call _).mono ?_; rintro e w2 ⟨rfl, hb2⟩
  have B2 := B1.call hb2
  (have Q := B2; obtain ⟨_, _, _, _⟩ := Q)
  go_wp2_with fail
  go_at_call 8; refine (W.out.call _).mono ?_; rintro e w9 ⟨rfl, hb9⟩
  go_wp2
  go_ret
  exact ⟨rfl, by repeat (first | exact Below.refl _ _ | apply ba | (refine bt ?_ (by assumption)))⟩

set_option maxRecDepth 100000 in
set_option maxHeartbeats 4000000 in
theorem even_not1 (n1 k1 n2 k2 : Int) (w0 : World) (W : Hid (Gives 8 #[] (.bool true)))
    (R1 : Hid (Gives 10 #[.agg #[.int .i64 (n1), .int .i64 (k1)]] (.bool true)))
    (R2 : Hid (Gives 10 #[.agg #[.int .i64 (n2), .int .i64 (k2)]] (.bool false))) :
    Calls Tryd.prog 5 #[nv n1 k1, nv n2 k2] w0 fun e w' => e = .returned (.bool true) ∧ Below w0.heap.size w0 w' := by
  unfold nv
  go_enter Tryd.func5, Tryd.ntmps5
  go_wp2_with fail
  go_at_call 8; refine (W.out.call _).mono ?_; rintro e w1 ⟨rfl, hb1⟩
  have A1 : Own w1 w0.heap.size (.int .i64 n1) (.int .i64 k1) := ((Own.new_at (by simp)).alloc _).call hb1
  have B1 : Own w1 (w0.heap.size + 1) (.int .i64 n2) (.int .i64 k2) := (Own.new_at (by simp)).call hb1
  (have Q := A1; obtain ⟨_, _, _, _⟩ := Q)
  (have Q := B1; obtain ⟨_, _, _, _⟩ := Q)
  go_wp2_with fail
  go_at_call 10; refine (R1.out.call _).mono ?_; rintro e w2 ⟨rfl, hb2⟩
  have B2 := B1.call hb2
  (have Q := B2; obtain ⟨_, _, _, _⟩ := Q)
  go_wp2_with fail
  go_at_call 10; refine (R2.out.call _).mono ?_; rintro e w3 ⟨rfl, hb3⟩
  have B3 := B2.call hb3
  (have Q := B3; obtain ⟨_, _, _, _⟩ := Q)
  go_wp2_with fail
  go_at_call 8; refine (W.out.call _).mono ?_; rintro e w9 ⟨rfl, hb9⟩
  go_wp2
  go_ret
  exact ⟨rfl, by repeat (first | exact Below.refl _ _ | apply ba | (refine bt ?_ (by assumption)))⟩
end Go.Proofs
