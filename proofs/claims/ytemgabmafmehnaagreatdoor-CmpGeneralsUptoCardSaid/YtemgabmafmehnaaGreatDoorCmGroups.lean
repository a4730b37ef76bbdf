/- The reference tells the group of a value. No condition beyond what the theorems state. -/
import Derived.Test.YtemgabmafmehnaaGreatDoorCmGeneral
namespace Go.Proofs.YtemgabmafmehnaaGreatDoor
open Go.Shelf Go.RowKit Go.Proofs.Wide Go.Proofs.Dig
set_option maxRecDepth 100000
set_option maxHeartbeats 8000000
theorem group_1 (n c : Int) (s : ByteArray) (b : Bool) (w : World) : Calls Tryz.prog 62 #[.agg #[.int .i64 1, .int .i64 n, .int .i64 c, .string s, .bool b]] w fun e w' => e = .returned (.int .i64 1) ∧ Below w.heap.size w w' := by
  go_enter Tryz.func62, Tryz.ntmps62
  go_wp2
  go_ret
  exact ⟨rfl, by repeat (with_reducible (first | exact Below.refl _ _ | assumption | apply ba | apply bd | apply bdr | (refine bs ?_ (by first | assumption | (simp; done) | (simp; omega))) | (refine bt ?_ (by assumption))))⟩
theorem group_2 (n c : Int) (s : ByteArray) (b : Bool) (w : World) : Calls Tryz.prog 62 #[.agg #[.int .i64 2, .int .i64 n, .int .i64 c, .string s, .bool b]] w fun e w' => e = .returned (.int .i64 1) ∧ Below w.heap.size w w' := by
  go_enter Tryz.func62, Tryz.ntmps62
  go_wp2
  go_ret
  exact ⟨rfl, by repeat (with_reducible (first | exact Below.refl _ _ | assumption | apply ba | apply bd | apply bdr | (refine bs ?_ (by first | assumption | (simp; done) | (simp; omega))) | (refine bt ?_ (by assumption))))⟩
theorem group_3 (n c : Int) (s : ByteArray) (b : Bool) (w : World) : Calls Tryz.prog 62 #[.agg #[.int .i64 3, .int .i64 n, .int .i64 c, .string s, .bool b]] w fun e w' => e = .returned (.int .i64 2) ∧ Below w.heap.size w w' := by
  go_enter Tryz.func62, Tryz.ntmps62
  go_wp2
  go_ret
  exact ⟨rfl, by repeat (with_reducible (first | exact Below.refl _ _ | assumption | apply ba | apply bd | apply bdr | (refine bs ?_ (by first | assumption | (simp; done) | (simp; omega))) | (refine bt ?_ (by assumption))))⟩
theorem group_4 (n c : Int) (s : ByteArray) (b : Bool) (w : World) : Calls Tryz.prog 62 #[.agg #[.int .i64 4, .int .i64 n, .int .i64 c, .string s, .bool b]] w fun e w' => e = .returned (.int .i64 3) ∧ Below w.heap.size w w' := by
  go_enter Tryz.func62, Tryz.ntmps62
  go_wp2
  go_ret
  exact ⟨rfl, by repeat (with_reducible (first | exact Below.refl _ _ | assumption | apply ba | apply bd | apply bdr | (refine bs ?_ (by first | assumption | (simp; done) | (simp; omega))) | (refine bt ?_ (by assumption))))⟩
theorem group_5 (n c : Int) (s : ByteArray) (b : Bool) (w : World) : Calls Tryz.prog 62 #[.agg #[.int .i64 5, .int .i64 n, .int .i64 c, .string s, .bool b]] w fun e w' => e = .returned (.int .i64 2) ∧ Below w.heap.size w w' := by
  go_enter Tryz.func62, Tryz.ntmps62
  go_wp2
  go_ret
  exact ⟨rfl, by repeat (with_reducible (first | exact Below.refl _ _ | assumption | apply ba | apply bd | apply bdr | (refine bs ?_ (by first | assumption | (simp; done) | (simp; omega))) | (refine bt ?_ (by assumption))))⟩
end Go.Proofs.YtemgabmafmehnaaGreatDoor
