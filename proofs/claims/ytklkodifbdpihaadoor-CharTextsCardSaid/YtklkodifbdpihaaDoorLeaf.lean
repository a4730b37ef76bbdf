/- The small tests of characters in package char and in the reference answer what plain predicates say. No condition beyond what the theorems state. -/
import Derived.Test.YtklkodifbdpihaaDoorProg
import Derived.WalkKit
import Derived.ProofKit
import Derived.Lib.Hide
import Derived.BigQuiet
import Derived.Deep.QuietTactic
import Derived.Deep.Light
namespace Go.Proofs.YtklkodifbdpihaaDoor
open Go.RowKit
set_option maxRecDepth 100000
theorem ret_bool {a b : Bool} (h : a = b) : Ending.returned (.bool a) = .returned (.bool b) := by rw [h]
def xmlP (p : Int) : Prop := p = 9 ∨ p = 10 ∨ p = 13 ∨ (32 ≤ p ∧ p ≤ 55295) ∨ (57344 ≤ p ∧ p ≤ 65533) ∨ (65536 ≤ p ∧ p ≤ 1114111)
instance (p : Int) : Decidable (xmlP p) := by unfold xmlP; infer_instance
def xmlB (p : Int) : Bool := decide (xmlP p)
theorem xmlB_iff (p : Int) : xmlB p = true ↔ xmlP p := decide_eq_true_iff
def letterP (p : Int) : Prop := (65 ≤ p ∧ p ≤ 90) ∨ (97 ≤ p ∧ p ≤ 122) ∨ p = 95 ∨ (192 ≤ p ∧ p ≠ 215 ∧ p ≠ 247)
instance (p : Int) : Decidable (letterP p) := by unfold letterP; infer_instance
def letterB (p : Int) : Bool := decide (letterP p)
theorem letterB_iff (p : Int) : letterB p = true ↔ letterP p := decide_eq_true_iff
def followP (p : Int) : Prop := (48 ≤ p ∧ p ≤ 57) ∨ p = 45 ∨ p = 46 ∨ p = 183
instance (p : Int) : Decidable (followP p) := by unfold followP; infer_instance
def followB (p : Int) : Bool := decide (followP p)
theorem followB_iff (p : Int) : followB p = true ↔ followP p := decide_eq_true_iff
def spaceP (p : Int) : Prop := p = 9 ∨ p = 10 ∨ p = 13 ∨ p = 32
instance (p : Int) : Decidable (spaceP p) := by unfold spaceP; infer_instance
def spaceB (p : Int) : Bool := decide (spaceP p)
theorem spaceB_iff (p : Int) : spaceB p = true ↔ spaceP p := decide_eq_true_iff

set_option maxHeartbeats 1000000 in
theorem xml_any (p : Int) (w : World) : Calls Tryd.prog 26 #[.int .i64 p] w fun e w' => e = .returned (.bool (xmlB p)) ∧ w = w' := by
  go_enter Tryd.func26, Tryd.ntmps26
  go_wp2
  all_goals go_ret
  all_goals (go_light; refine ⟨ret_bool ?_, rfl⟩; rw [Bool.eq_iff_iff, xmlB_iff]; simp only [beq_iff_eq, beq_eq_false_iff_ne, ne_eq, Bool.or_eq_true, decide_eq_true_eq, true_iff, Bool.false_eq_true, false_iff] at *; unfold xmlP; omega)
set_option maxHeartbeats 1000000 in
theorem listed_any (p : Int) (w : World) : Calls Tryd.prog 30 #[.int .i64 p] w fun e w' => e = .returned (.bool (xmlB p)) ∧ w = w' := by
  go_enter Tryd.func30, Tryd.ntmps30
  go_wp2
  all_goals go_ret
  all_goals (go_light; refine ⟨ret_bool ?_, rfl⟩; rw [Bool.eq_iff_iff, xmlB_iff]; simp only [beq_iff_eq, Bool.or_eq_true, decide_eq_true_eq, true_iff, Bool.false_eq_true, false_iff] at *; unfold xmlP; omega)
set_option maxHeartbeats 1000000 in
theorem letter_any (p : Int) (w : World) : Calls Tryd.prog 32 #[.int .i32 p] w fun e w' => e = .returned (.bool (letterB p)) ∧ w = w' := by
  go_enter Tryd.func32, Tryd.ntmps32
  go_wp2
  all_goals go_ret
  all_goals (go_light; refine ⟨ret_bool ?_, rfl⟩; rw [Bool.eq_iff_iff, letterB_iff]; simp only [beq_iff_eq, bne_iff_ne, ne_eq, Bool.or_eq_true, Bool.and_eq_true, decide_eq_true_eq, true_iff, Bool.false_eq_true, false_iff] at *; unfold letterP; omega)
set_option maxHeartbeats 1000000 in
theorem follows_any (p : Int) (w : World) : Calls Tryd.prog 33 #[.int .i32 p] w fun e w' => e = .returned (.bool (followB p)) ∧ w = w' := by
  go_enter Tryd.func33, Tryd.ntmps33
  go_wp2
  all_goals go_ret
  all_goals (go_light; refine ⟨ret_bool ?_, rfl⟩; rw [Bool.eq_iff_iff, followB_iff]; simp only [beq_iff_eq, Bool.or_eq_true, decide_eq_true_eq, true_iff] at *; unfold followP; omega)
set_option maxHeartbeats 1000000 in
theorem space_any (p : Int) (w : World) : Calls Tryd.prog 35 #[.int .i32 p] w fun e w' => e = .returned (.bool (spaceB p)) ∧ w = w' := by
  go_enter Tryd.func35, Tryd.ntmps35
  go_wp2
  all_goals go_ret
  all_goals (go_light; refine ⟨ret_bool ?_, rfl⟩; rw [Bool.eq_iff_iff, spaceB_iff]; simp only [beq_iff_eq, Bool.or_eq_true, true_iff] at *; unfold spaceP; omega)
set_option maxHeartbeats 1000000 in
theorem spaceRef_any (p : Int) (w : World) : Calls Tryd.prog 36 #[.int .u8 p] w fun e w' => e = .returned (.bool (spaceB p)) ∧ w = w' := by
  go_enter Tryd.func36, Tryd.ntmps36
  go_wp2
  all_goals go_ret
  all_goals (go_light; refine ⟨ret_bool ?_, rfl⟩; rw [Bool.eq_iff_iff, spaceB_iff]; simp only [beq_iff_eq, Bool.or_eq_true, true_iff] at *; unfold spaceP; omega)
end Go.Proofs.YtklkodifbdpihaaDoor
