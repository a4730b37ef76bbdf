/- Package cmp orders two values. No condition beyond what the theorems state. -/
import Derived.Test.YtemgabmafmehnaaGreatDoorAtReads
import Derived.Deep.RegionHeld3
import Derived.BigQuiet
import Derived.Test.YtemgabmafmehnaaGreatDoorAtWrites
namespace Go.Proofs.YtemgabmafmehnaaGreatDoor
open Go.Shelf Go.RowKit Go.Proofs.Wide
set_option maxRecDepth 100000
set_option maxHeartbeats 8000000
theorem truths_false_false  (w : World) : Calls Tryz.prog 61 #[.bool false, .bool false] w fun e w' => e = .returned (.int .i64 0) ∧ Below w.heap.size w w' := by
  go_enter Tryz.func61, Tryz.ntmps61
  go_wp2
  go_ret
  exact ⟨rfl, by repeat (with_reducible (first | exact Below.refl _ _ | assumption | apply ba | apply bd | apply bdr | (refine bs ?_ (by first | assumption | (simp; done) | (simp; omega))) | (refine bt ?_ (by assumption))))⟩
theorem truths_true_true  (w : World) : Calls Tryz.prog 61 #[.bool true, .bool true] w fun e w' => e = .returned (.int .i64 0) ∧ Below w.heap.size w w' := by
  go_enter Tryz.func61, Tryz.ntmps61
  go_wp2
  go_ret
  exact ⟨rfl, by repeat (with_reducible (first | exact Below.refl _ _ | assumption | apply ba | apply bd | apply bdr | (refine bs ?_ (by first | assumption | (simp; done) | (simp; omega))) | (refine bt ?_ (by assumption))))⟩
theorem truths_false_true  (w : World) : Calls Tryz.prog 61 #[.bool false, .bool true] w fun e w' => e = .returned (.int .i64 (-1)) ∧ Below w.heap.size w w' := by
  go_enter Tryz.func61, Tryz.ntmps61
  go_wp2
  go_ret
  exact ⟨rfl, by repeat (with_reducible (first | exact Below.refl _ _ | assumption | apply ba | apply bd | apply bdr | (refine bs ?_ (by first | assumption | (simp; done) | (simp; omega))) | (refine bt ?_ (by assumption))))⟩
theorem truths_true_false  (w : World) : Calls Tryz.prog 61 #[.bool true, .bool false] w fun e w' => e = .returned (.int .i64 1) ∧ Below w.heap.size w w' := by
  go_enter Tryz.func61, Tryz.ntmps61
  go_wp2
  go_ret
  exact ⟨rfl, by repeat (with_reducible (first | exact Below.refl _ _ | assumption | apply ba | apply bd | apply bdr | (refine bs ?_ (by first | assumption | (simp; done) | (simp; omega))) | (refine bt ?_ (by assumption))))⟩
theorem order_num (k n c : Int) (s : ByteArray) (b : Bool) (k2 n2 c2 : Int) (s2 : ByteArray) (b2 : Bool) (p q p2 q2 r : Int) (w : World) (N1 : Hid (Gives 16 #[.agg #[.int .i64 k, .int .i64 n, .int .i64 c, .string s, .bool b]] (.bool true))) (N2 : Hid (Gives 16 #[.agg #[.int .i64 k2, .int .i64 n2, .int .i64 c2, .string s2, .bool b2]] (.bool true))) (M1 : Hid (Gives 23 #[.agg #[.int .i64 k, .int .i64 n, .int .i64 c, .string s, .bool b]] (.agg #[.int .i64 p, .int .i64 q]))) (M2 : Hid (Gives 23 #[.agg #[.int .i64 k2, .int .i64 n2, .int .i64 c2, .string s2, .bool b2]] (.agg #[.int .i64 p2, .int .i64 q2]))) (C : Hid (Gives 28 #[.agg #[.int .i64 p, .int .i64 q], .agg #[.int .i64 p2, .int .i64 q2]] (.int .i64 r))) : Calls Tryz.prog 30 #[.agg #[.int .i64 k, .int .i64 n, .int .i64 c, .string s, .bool b], .agg #[.int .i64 k2, .int .i64 n2, .int .i64 c2, .string s2, .bool b2]] w fun e w' => e = .returned (.tuple #[.int .i64 r, .int .i64 0]) ∧ Below w.heap.size w w' := by
  go_enter Tryz.func30, Tryz.ntmps30
  go_wp2_with fail
  refine (N1.out.call _).mono ?_
  rintro e w1 ⟨rfl, hb1⟩; have B1 : Below w.heap.size w w1 := (by repeat (with_reducible (first | exact Below.refl _ _ | assumption | apply ba | apply bd | apply bdr | (refine bs ?_ (by first | assumption | (simp; done) | (simp; omega))) | (refine bt ?_ (by assumption))))); have y1 := B1.size; have hc1_0 := fun o => (bcell hb1).1 (w.heap.size) o (by first | (simp; done) | assumption | (simp; omega)); have hf1_0 := fun o => (bcell hb1).2 (w.heap.size) o (by first | (simp; done) | assumption | (simp; omega)); have z1_0 : w.heap.size < w1.heap.size := zz hb1 (by first | (simp; done) | assumption | (simp; omega)); have hc1_1 := fun o => (bcell hb1).1 (w.heap.size + 1) o (by first | (simp; done) | assumption | (simp; omega)); have hf1_1 := fun o => (bcell hb1).2 (w.heap.size + 1) o (by first | (simp; done) | assumption | (simp; omega)); have z1_1 : w.heap.size + 1 < w1.heap.size := zz hb1 (by first | (simp; done) | assumption | (simp; omega))
  go_wp2_with fail
  refine (N2.out.call _).mono ?_
  rintro e w2 ⟨rfl, hb2⟩; have B2 : Below w.heap.size w w2 := (by repeat (with_reducible (first | exact Below.refl _ _ | assumption | apply ba | apply bd | apply bdr | (refine bs ?_ (by first | assumption | (simp; done) | (simp; omega))) | (refine bt ?_ (by assumption))))); have y2 := B2.size; have hc2_0 := fun o => (bcell hb2).1 (w.heap.size) o (by first | (simp; done) | assumption | (simp; omega)); have hf2_0 := fun o => (bcell hb2).2 (w.heap.size) o (by first | (simp; done) | assumption | (simp; omega)); have z2_0 : w.heap.size < w2.heap.size := zz hb2 (by first | (simp; done) | assumption | (simp; omega)); have hc2_1 := fun o => (bcell hb2).1 (w.heap.size + 1) o (by first | (simp; done) | assumption | (simp; omega)); have hf2_1 := fun o => (bcell hb2).2 (w.heap.size + 1) o (by first | (simp; done) | assumption | (simp; omega)); have z2_1 : w.heap.size + 1 < w2.heap.size := zz hb2 (by first | (simp; done) | assumption | (simp; omega))
  go_upto_region 2 with fail
  have e0_0 : w2.cell? ⟨w.heap.size, 0, none⟩ = some (.int .i64 k) := by first | (go_simp; done) | simp [go_sem, *]
  have e0_1 : w2.cell? ⟨w.heap.size, 1, none⟩ = some (.int .i64 n) := by first | (go_simp; done) | simp [go_sem, *]
  have e0_2 : w2.cell? ⟨w.heap.size, 2, none⟩ = some (.int .i64 c) := by first | (go_simp; done) | simp [go_sem, *]
  have e0_3 : w2.cell? ⟨w.heap.size, 3, none⟩ = some (.string s) := by first | (go_simp; done) | simp [go_sem, *]
  have e0_4 : w2.cell? ⟨w.heap.size, 4, none⟩ = some (.bool b) := by first | (go_simp; done) | simp [go_sem, *]
  have e1_0 : w2.cell? ⟨w.heap.size + 1, 0, none⟩ = some (.int .i64 k2) := by first | (go_simp; done) | simp [go_sem, *]
  have e1_1 : w2.cell? ⟨w.heap.size + 1, 1, none⟩ = some (.int .i64 n2) := by first | (go_simp; done) | simp [go_sem, *]
  have e1_2 : w2.cell? ⟨w.heap.size + 1, 2, none⟩ = some (.int .i64 c2) := by first | (go_simp; done) | simp [go_sem, *]
  have e1_3 : w2.cell? ⟨w.heap.size + 1, 3, none⟩ = some (.string s2) := by first | (go_simp; done) | simp [go_sem, *]
  have e1_4 : w2.cell? ⟨w.heap.size + 1, 4, none⟩ = some (.bool b2) := by first | (go_simp; done) | simp [go_sem, *]
  clear hc1_0 hc1_1 hc2_0 hc2_1
  go_region_held3 (fun w' => w'.cell? ⟨w.heap.size, 0, none⟩ = some (.int .i64 k) ∧ w'.cell? ⟨w.heap.size, 1, none⟩ = some (.int .i64 n) ∧ w'.cell? ⟨w.heap.size, 2, none⟩ = some (.int .i64 c) ∧ w'.cell? ⟨w.heap.size, 3, none⟩ = some (.string s) ∧ w'.cell? ⟨w.heap.size, 4, none⟩ = some (.bool b) ∧ w'.cell? ⟨w.heap.size + 1, 0, none⟩ = some (.int .i64 k2) ∧ w'.cell? ⟨w.heap.size + 1, 1, none⟩ = some (.int .i64 n2) ∧ w'.cell? ⟨w.heap.size + 1, 2, none⟩ = some (.int .i64 c2) ∧ w'.cell? ⟨w.heap.size + 1, 3, none⟩ = some (.string s2) ∧ w'.cell? ⟨w.heap.size + 1, 4, none⟩ = some (.bool b2) ∧ w.heap.size < w'.heap.size ∧ w.heap.size + 1 < w'.heap.size ∧ Below w.heap.size w w')
    (first | (go_keep; done) | ((repeat' apply And.intro) <;> first | assumption | (go_keep; done) | (refine Nat.lt_of_lt_of_le (by assumption) ?_; simp; done) | exact zz (by assumption) (by simp) | exact zz (by assumption) (by assumption) | repeat (with_reducible (first | exact Below.refl _ _ | assumption | apply ba | apply bd | apply bdr | (refine bs ?_ (by first | assumption | (simp; done) | (simp; omega))) | (refine bt ?_ (by assumption))))))
    (first
      | (go_at_call 23; (first | (with_reducible refine (M1.out.call _).mono ?_) | (with_reducible refine (M2.out.call _).mono ?_)); rintro e w3 ⟨rfl, hb3⟩; have B3 : Below w.heap.size w w3 := (by repeat (with_reducible (first | exact Below.refl _ _ | assumption | apply ba | apply bd | apply bdr | (refine bs ?_ (by first | assumption | (simp; done) | (simp; omega))) | (refine bt ?_ (by assumption))))); have y3 := B3.size; have hc3_0 := fun o => (bcell hb3).1 (w.heap.size) o (by first | (simp; done) | assumption | (simp; omega)); have hf3_0 := fun o => (bcell hb3).2 (w.heap.size) o (by first | (simp; done) | assumption | (simp; omega)); have z3_0 : w.heap.size < w3.heap.size := zz hb3 (by first | (simp; done) | assumption | (simp; omega)); have hc3_1 := fun o => (bcell hb3).1 (w.heap.size + 1) o (by first | (simp; done) | assumption | (simp; omega)); have hf3_1 := fun o => (bcell hb3).2 (w.heap.size + 1) o (by first | (simp; done) | assumption | (simp; omega)); have z3_1 : w.heap.size + 1 < w3.heap.size := zz hb3 (by first | (simp; done) | assumption | (simp; omega)))
      | (go_at_call 28; refine (C.out.call _).mono ?_; rintro e w4 ⟨rfl, hb4⟩; have B4 : Below w.heap.size w w4 := (by repeat (with_reducible (first | exact Below.refl _ _ | assumption | apply ba | apply bd | apply bdr | (refine bs ?_ (by first | assumption | (simp; done) | (simp; omega))) | (refine bt ?_ (by assumption))))); have y4 := B4.size; have hc4_0 := fun o => (bcell hb4).1 (w.heap.size) o (by first | (simp; done) | assumption | (simp; omega)); have hf4_0 := fun o => (bcell hb4).2 (w.heap.size) o (by first | (simp; done) | assumption | (simp; omega)); have z4_0 : w.heap.size < w4.heap.size := zz hb4 (by first | (simp; done) | assumption | (simp; omega)); have hc4_1 := fun o => (bcell hb4).1 (w.heap.size + 1) o (by first | (simp; done) | assumption | (simp; omega)); have hf4_1 := fun o => (bcell hb4).2 (w.heap.size + 1) o (by first | (simp; done) | assumption | (simp; omega)); have z4_1 : w.heap.size + 1 < w4.heap.size := zz hb4 (by first | (simp; done) | assumption | (simp; omega))))
  all_goals go_wp2
  all_goals go_ret2
  all_goals exact ⟨rfl, by repeat (with_reducible (first | exact Below.refl _ _ | assumption | apply ba | apply bd | apply bdr | (refine bs ?_ (by first | assumption | (simp; done) | (simp; omega))) | (refine bt ?_ (by assumption))))⟩
theorem order_txt (k n c : Int) (s : ByteArray) (b : Bool) (k2 n2 c2 : Int) (s2 : ByteArray) (b2 : Bool) (r : Int) (w : World) (N1 : Hid (Gives 16 #[.agg #[.int .i64 k, .int .i64 n, .int .i64 c, .string s, .bool b]] (.bool false))) (T1 : Hid (Gives 59 #[.agg #[.int .i64 k, .int .i64 n, .int .i64 c, .string s, .bool b]] (.bool true))) (T2 : Hid (Gives 59 #[.agg #[.int .i64 k2, .int .i64 n2, .int .i64 c2, .string s2, .bool b2]] (.bool true))) (C : Hid (Gives 60 #[.string s, .string s2] (.int .i64 r))) : Calls Tryz.prog 30 #[.agg #[.int .i64 k, .int .i64 n, .int .i64 c, .string s, .bool b], .agg #[.int .i64 k2, .int .i64 n2, .int .i64 c2, .string s2, .bool b2]] w fun e w' => e = .returned (.tuple #[.int .i64 r, .int .i64 0]) ∧ Below w.heap.size w w' := by
  go_enter Tryz.func30, Tryz.ntmps30
  go_wp2_with fail
  refine (N1.out.call _).mono ?_
  rintro e w1 ⟨rfl, hb1⟩; have B1 : Below w.heap.size w w1 := (by repeat (with_reducible (first | exact Below.refl _ _ | assumption | apply ba | apply bd | apply bdr | (refine bs ?_ (by first | assumption | (simp; done) | (simp; omega))) | (refine bt ?_ (by assumption))))); have y1 := B1.size; have hc1_0 := fun o => (bcell hb1).1 (w.heap.size) o (by first | (simp; done) | assumption | (simp; omega)); have hf1_0 := fun o => (bcell hb1).2 (w.heap.size) o (by first | (simp; done) | assumption | (simp; omega)); have z1_0 : w.heap.size < w1.heap.size := zz hb1 (by first | (simp; done) | assumption | (simp; omega)); have hc1_1 := fun o => (bcell hb1).1 (w.heap.size + 1) o (by first | (simp; done) | assumption | (simp; omega)); have hf1_1 := fun o => (bcell hb1).2 (w.heap.size + 1) o (by first | (simp; done) | assumption | (simp; omega)); have z1_1 : w.heap.size + 1 < w1.heap.size := zz hb1 (by first | (simp; done) | assumption | (simp; omega))
  go_wp2_with fail
  refine (T1.out.call _).mono ?_
  rintro e w2 ⟨rfl, hb2⟩; have B2 : Below w.heap.size w w2 := (by repeat (with_reducible (first | exact Below.refl _ _ | assumption | apply ba | apply bd | apply bdr | (refine bs ?_ (by first | assumption | (simp; done) | (simp; omega))) | (refine bt ?_ (by assumption))))); have y2 := B2.size; have hc2_0 := fun o => (bcell hb2).1 (w.heap.size) o (by first | (simp; done) | assumption | (simp; omega)); have hf2_0 := fun o => (bcell hb2).2 (w.heap.size) o (by first | (simp; done) | assumption | (simp; omega)); have z2_0 : w.heap.size < w2.heap.size := zz hb2 (by first | (simp; done) | assumption | (simp; omega)); have hc2_1 := fun o => (bcell hb2).1 (w.heap.size + 1) o (by first | (simp; done) | assumption | (simp; omega)); have hf2_1 := fun o => (bcell hb2).2 (w.heap.size + 1) o (by first | (simp; done) | assumption | (simp; omega)); have z2_1 : w.heap.size + 1 < w2.heap.size := zz hb2 (by first | (simp; done) | assumption | (simp; omega))
  go_wp2_with fail
  refine (T2.out.call _).mono ?_
  rintro e w3 ⟨rfl, hb3⟩; have B3 : Below w.heap.size w w3 := (by repeat (with_reducible (first | exact Below.refl _ _ | assumption | apply ba | apply bd | apply bdr | (refine bs ?_ (by first | assumption | (simp; done) | (simp; omega))) | (refine bt ?_ (by assumption))))); have y3 := B3.size; have hc3_0 := fun o => (bcell hb3).1 (w.heap.size) o (by first | (simp; done) | assumption | (simp; omega)); have hf3_0 := fun o => (bcell hb3).2 (w.heap.size) o (by first | (simp; done) | assumption | (simp; omega)); have z3_0 : w.heap.size < w3.heap.size := zz hb3 (by first | (simp; done) | assumption | (simp; omega)); have hc3_1 := fun o => (bcell hb3).1 (w.heap.size + 1) o (by first | (simp; done) | assumption | (simp; omega)); have hf3_1 := fun o => (bcell hb3).2 (w.heap.size + 1) o (by first | (simp; done) | assumption | (simp; omega)); have z3_1 : w.heap.size + 1 < w3.heap.size := zz hb3 (by first | (simp; done) | assumption | (simp; omega))
  go_wp2_with fail
  refine (C.out.call _).mono ?_
  rintro e w4 ⟨rfl, hb4⟩; have B4 : Below w.heap.size w w4 := (by repeat (with_reducible (first | exact Below.refl _ _ | assumption | apply ba | apply bd | apply bdr | (refine bs ?_ (by first | assumption | (simp; done) | (simp; omega))) | (refine bt ?_ (by assumption))))); have y4 := B4.size; have hc4_0 := fun o => (bcell hb4).1 (w.heap.size) o (by first | (simp; done) | assumption | (simp; omega)); have hf4_0 := fun o => (bcell hb4).2 (w.heap.size) o (by first | (simp; done) | assumption | (simp; omega)); have z4_0 : w.heap.size < w4.heap.size := zz hb4 (by first | (simp; done) | assumption | (simp; omega)); have hc4_1 := fun o => (bcell hb4).1 (w.heap.size + 1) o (by first | (simp; done) | assumption | (simp; omega)); have hf4_1 := fun o => (bcell hb4).2 (w.heap.size + 1) o (by first | (simp; done) | assumption | (simp; omega)); have z4_1 : w.heap.size + 1 < w4.heap.size := zz hb4 (by first | (simp; done) | assumption | (simp; omega))
  go_wp2
  go_ret2
  exact ⟨rfl, by repeat (with_reducible (first | exact Below.refl _ _ | assumption | apply ba | apply bd | apply bdr | (refine bs ?_ (by first | assumption | (simp; done) | (simp; omega))) | (refine bt ?_ (by assumption))))⟩
theorem order_boo (n c : Int) (s : ByteArray) (b : Bool) (n2 c2 : Int) (s2 : ByteArray) (b2 : Bool) (r : Int) (w : World) (N1 : Hid (Gives 16 #[.agg #[.int .i64 4, .int .i64 n, .int .i64 c, .string s, .bool b]] (.bool false))) (T1 : Hid (Gives 59 #[.agg #[.int .i64 4, .int .i64 n, .int .i64 c, .string s, .bool b]] (.bool false))) (C : Hid (Gives 61 #[.bool b, .bool b2] (.int .i64 r))) : Calls Tryz.prog 30 #[.agg #[.int .i64 4, .int .i64 n, .int .i64 c, .string s, .bool b], .agg #[.int .i64 4, .int .i64 n2, .int .i64 c2, .string s2, .bool b2]] w fun e w' => e = .returned (.tuple #[.int .i64 r, .int .i64 0]) ∧ Below w.heap.size w w' := by
  go_enter Tryz.func30, Tryz.ntmps30
  go_wp2_with fail
  refine (N1.out.call _).mono ?_
  rintro e w1 ⟨rfl, hb1⟩; have B1 : Below w.heap.size w w1 := (by repeat (with_reducible (first | exact Below.refl _ _ | assumption | apply ba | apply bd | apply bdr | (refine bs ?_ (by first | assumption | (simp; done) | (simp; omega))) | (refine bt ?_ (by assumption))))); have y1 := B1.size; have hc1_0 := fun o => (bcell hb1).1 (w.heap.size) o (by first | (simp; done) | assumption | (simp; omega)); have hf1_0 := fun o => (bcell hb1).2 (w.heap.size) o (by first | (simp; done) | assumption | (simp; omega)); have z1_0 : w.heap.size < w1.heap.size := zz hb1 (by first | (simp; done) | assumption | (simp; omega)); have hc1_1 := fun o => (bcell hb1).1 (w.heap.size + 1) o (by first | (simp; done) | assumption | (simp; omega)); have hf1_1 := fun o => (bcell hb1).2 (w.heap.size + 1) o (by first | (simp; done) | assumption | (simp; omega)); have z1_1 : w.heap.size + 1 < w1.heap.size := zz hb1 (by first | (simp; done) | assumption | (simp; omega))
  go_wp2_with fail
  refine (T1.out.call _).mono ?_
  rintro e w2 ⟨rfl, hb2⟩; have B2 : Below w.heap.size w w2 := (by repeat (with_reducible (first | exact Below.refl _ _ | assumption | apply ba | apply bd | apply bdr | (refine bs ?_ (by first | assumption | (simp; done) | (simp; omega))) | (refine bt ?_ (by assumption))))); have y2 := B2.size; have hc2_0 := fun o => (bcell hb2).1 (w.heap.size) o (by first | (simp; done) | assumption | (simp; omega)); have hf2_0 := fun o => (bcell hb2).2 (w.heap.size) o (by first | (simp; done) | assumption | (simp; omega)); have z2_0 : w.heap.size < w2.heap.size := zz hb2 (by first | (simp; done) | assumption | (simp; omega)); have hc2_1 := fun o => (bcell hb2).1 (w.heap.size + 1) o (by first | (simp; done) | assumption | (simp; omega)); have hf2_1 := fun o => (bcell hb2).2 (w.heap.size + 1) o (by first | (simp; done) | assumption | (simp; omega)); have z2_1 : w.heap.size + 1 < w2.heap.size := zz hb2 (by first | (simp; done) | assumption | (simp; omega))
  go_wp2_with fail
  refine (C.out.call _).mono ?_
  rintro e w3 ⟨rfl, hb3⟩; have B3 : Below w.heap.size w w3 := (by repeat (with_reducible (first | exact Below.refl _ _ | assumption | apply ba | apply bd | apply bdr | (refine bs ?_ (by first | assumption | (simp; done) | (simp; omega))) | (refine bt ?_ (by assumption))))); have y3 := B3.size; have hc3_0 := fun o => (bcell hb3).1 (w.heap.size) o (by first | (simp; done) | assumption | (simp; omega)); have hf3_0 := fun o => (bcell hb3).2 (w.heap.size) o (by first | (simp; done) | assumption | (simp; omega)); have z3_0 : w.heap.size < w3.heap.size := zz hb3 (by first | (simp; done) | assumption | (simp; omega)); have hc3_1 := fun o => (bcell hb3).1 (w.heap.size + 1) o (by first | (simp; done) | assumption | (simp; omega)); have hf3_1 := fun o => (bcell hb3).2 (w.heap.size + 1) o (by first | (simp; done) | assumption | (simp; omega)); have z3_1 : w.heap.size + 1 < w3.heap.size := zz hb3 (by first | (simp; done) | assumption | (simp; omega))
  go_wp2
  go_ret2
  exact ⟨rfl, by repeat (with_reducible (first | exact Below.refl _ _ | assumption | apply ba | apply bd | apply bdr | (refine bs ?_ (by first | assumption | (simp; done) | (simp; omega))) | (refine bt ?_ (by assumption))))⟩
theorem order_no1 (k n c : Int) (s : ByteArray) (b : Bool) (k2 n2 c2 : Int) (s2 : ByteArray) (b2 : Bool) (w : World) (N1 : Hid (Gives 16 #[.agg #[.int .i64 k, .int .i64 n, .int .i64 c, .string s, .bool b]] (.bool true))) (N2 : Hid (Gives 16 #[.agg #[.int .i64 k2, .int .i64 n2, .int .i64 c2, .string s2, .bool b2]] (.bool false))) (T1 : Hid (Gives 59 #[.agg #[.int .i64 k, .int .i64 n, .int .i64 c, .string s, .bool b]] (.bool false))) (hk : k ≠ 4) : Calls Tryz.prog 30 #[.agg #[.int .i64 k, .int .i64 n, .int .i64 c, .string s, .bool b], .agg #[.int .i64 k2, .int .i64 n2, .int .i64 c2, .string s2, .bool b2]] w fun e w' => e = .returned (.tuple #[.int .i64 0, .int .i64 44]) ∧ Below w.heap.size w w' := by
  have k4 : (k == 4) = false := by simpa using hk
  clear hk
  go_enter Tryz.func30, Tryz.ntmps30
  go_wp2_with fail
  refine (N1.out.call _).mono ?_
  rintro e w1 ⟨rfl, hb1⟩; have B1 : Below w.heap.size w w1 := (by repeat (with_reducible (first | exact Below.refl _ _ | assumption | apply ba | apply bd | apply bdr | (refine bs ?_ (by first | assumption | (simp; done) | (simp; omega))) | (refine bt ?_ (by assumption))))); have y1 := B1.size; have hc1_0 := fun o => (bcell hb1).1 (w.heap.size) o (by first | (simp; done) | assumption | (simp; omega)); have hf1_0 := fun o => (bcell hb1).2 (w.heap.size) o (by first | (simp; done) | assumption | (simp; omega)); have z1_0 : w.heap.size < w1.heap.size := zz hb1 (by first | (simp; done) | assumption | (simp; omega)); have hc1_1 := fun o => (bcell hb1).1 (w.heap.size + 1) o (by first | (simp; done) | assumption | (simp; omega)); have hf1_1 := fun o => (bcell hb1).2 (w.heap.size + 1) o (by first | (simp; done) | assumption | (simp; omega)); have z1_1 : w.heap.size + 1 < w1.heap.size := zz hb1 (by first | (simp; done) | assumption | (simp; omega))
  go_wp2_with fail
  refine (N2.out.call _).mono ?_
  rintro e w2 ⟨rfl, hb2⟩; have B2 : Below w.heap.size w w2 := (by repeat (with_reducible (first | exact Below.refl _ _ | assumption | apply ba | apply bd | apply bdr | (refine bs ?_ (by first | assumption | (simp; done) | (simp; omega))) | (refine bt ?_ (by assumption))))); have y2 := B2.size; have hc2_0 := fun o => (bcell hb2).1 (w.heap.size) o (by first | (simp; done) | assumption | (simp; omega)); have hf2_0 := fun o => (bcell hb2).2 (w.heap.size) o (by first | (simp; done) | assumption | (simp; omega)); have z2_0 : w.heap.size < w2.heap.size := zz hb2 (by first | (simp; done) | assumption | (simp; omega)); have hc2_1 := fun o => (bcell hb2).1 (w.heap.size + 1) o (by first | (simp; done) | assumption | (simp; omega)); have hf2_1 := fun o => (bcell hb2).2 (w.heap.size + 1) o (by first | (simp; done) | assumption | (simp; omega)); have z2_1 : w.heap.size + 1 < w2.heap.size := zz hb2 (by first | (simp; done) | assumption | (simp; omega))
  go_wp2_with fail
  refine (T1.out.call _).mono ?_
  rintro e w3 ⟨rfl, hb3⟩; have B3 : Below w.heap.size w w3 := (by repeat (with_reducible (first | exact Below.refl _ _ | assumption | apply ba | apply bd | apply bdr | (refine bs ?_ (by first | assumption | (simp; done) | (simp; omega))) | (refine bt ?_ (by assumption))))); have y3 := B3.size; have hc3_0 := fun o => (bcell hb3).1 (w.heap.size) o (by first | (simp; done) | assumption | (simp; omega)); have hf3_0 := fun o => (bcell hb3).2 (w.heap.size) o (by first | (simp; done) | assumption | (simp; omega)); have z3_0 : w.heap.size < w3.heap.size := zz hb3 (by first | (simp; done) | assumption | (simp; omega)); have hc3_1 := fun o => (bcell hb3).1 (w.heap.size + 1) o (by first | (simp; done) | assumption | (simp; omega)); have hf3_1 := fun o => (bcell hb3).2 (w.heap.size + 1) o (by first | (simp; done) | assumption | (simp; omega)); have z3_1 : w.heap.size + 1 < w3.heap.size := zz hb3 (by first | (simp; done) | assumption | (simp; omega))
  go_wp2
  go_ret2
  exact ⟨rfl, by repeat (with_reducible (first | exact Below.refl _ _ | assumption | apply ba | apply bd | apply bdr | (refine bs ?_ (by first | assumption | (simp; done) | (simp; omega))) | (refine bt ?_ (by assumption))))⟩
theorem order_no2 (k n c : Int) (s : ByteArray) (b : Bool) (k2 n2 c2 : Int) (s2 : ByteArray) (b2 : Bool) (w : World) (N1 : Hid (Gives 16 #[.agg #[.int .i64 k, .int .i64 n, .int .i64 c, .string s, .bool b]] (.bool false))) (T1 : Hid (Gives 59 #[.agg #[.int .i64 k, .int .i64 n, .int .i64 c, .string s, .bool b]] (.bool true))) (T2 : Hid (Gives 59 #[.agg #[.int .i64 k2, .int .i64 n2, .int .i64 c2, .string s2, .bool b2]] (.bool false))) (hk : k ≠ 4) : Calls Tryz.prog 30 #[.agg #[.int .i64 k, .int .i64 n, .int .i64 c, .string s, .bool b], .agg #[.int .i64 k2, .int .i64 n2, .int .i64 c2, .string s2, .bool b2]] w fun e w' => e = .returned (.tuple #[.int .i64 0, .int .i64 44]) ∧ Below w.heap.size w w' := by
  have k4 : (k == 4) = false := by simpa using hk
  clear hk
  go_enter Tryz.func30, Tryz.ntmps30
  go_wp2_with fail
  refine (N1.out.call _).mono ?_
  rintro e w1 ⟨rfl, hb1⟩; have B1 : Below w.heap.size w w1 := (by repeat (with_reducible (first | exact Below.refl _ _ | assumption | apply ba | apply bd | apply bdr | (refine bs ?_ (by first | assumption | (simp; done) | (simp; omega))) | (refine bt ?_ (by assumption))))); have y1 := B1.size; have hc1_0 := fun o => (bcell hb1).1 (w.heap.size) o (by first | (simp; done) | assumption | (simp; omega)); have hf1_0 := fun o => (bcell hb1).2 (w.heap.size) o (by first | (simp; done) | assumption | (simp; omega)); have z1_0 : w.heap.size < w1.heap.size := zz hb1 (by first | (simp; done) | assumption | (simp; omega)); have hc1_1 := fun o => (bcell hb1).1 (w.heap.size + 1) o (by first | (simp; done) | assumption | (simp; omega)); have hf1_1 := fun o => (bcell hb1).2 (w.heap.size + 1) o (by first | (simp; done) | assumption | (simp; omega)); have z1_1 : w.heap.size + 1 < w1.heap.size := zz hb1 (by first | (simp; done) | assumption | (simp; omega))
  go_wp2_with fail
  refine (T1.out.call _).mono ?_
  rintro e w2 ⟨rfl, hb2⟩; have B2 : Below w.heap.size w w2 := (by repeat (with_reducible (first | exact Below.refl _ _ | assumption | apply ba | apply bd | apply bdr | (refine bs ?_ (by first | assumption | (simp; done) | (simp; omega))) | (refine bt ?_ (by assumption))))); have y2 := B2.size; have hc2_0 := fun o => (bcell hb2).1 (w.heap.size) o (by first | (simp; done) | assumption | (simp; omega)); have hf2_0 := fun o => (bcell hb2).2 (w.heap.size) o (by first | (simp; done) | assumption | (simp; omega)); have z2_0 : w.heap.size < w2.heap.size := zz hb2 (by first | (simp; done) | assumption | (simp; omega)); have hc2_1 := fun o => (bcell hb2).1 (w.heap.size + 1) o (by first | (simp; done) | assumption | (simp; omega)); have hf2_1 := fun o => (bcell hb2).2 (w.heap.size + 1) o (by first | (simp; done) | assumption | (simp; omega)); have z2_1 : w.heap.size + 1 < w2.heap.size := zz hb2 (by first | (simp; done) | assumption | (simp; omega))
  go_wp2_with fail
  refine (T2.out.call _).mono ?_
  rintro e w3 ⟨rfl, hb3⟩; have B3 : Below w.heap.size w w3 := (by repeat (with_reducible (first | exact Below.refl _ _ | assumption | apply ba | apply bd | apply bdr | (refine bs ?_ (by first | assumption | (simp; done) | (simp; omega))) | (refine bt ?_ (by assumption))))); have y3 := B3.size; have hc3_0 := fun o => (bcell hb3).1 (w.heap.size) o (by first | (simp; done) | assumption | (simp; omega)); have hf3_0 := fun o => (bcell hb3).2 (w.heap.size) o (by first | (simp; done) | assumption | (simp; omega)); have z3_0 : w.heap.size < w3.heap.size := zz hb3 (by first | (simp; done) | assumption | (simp; omega)); have hc3_1 := fun o => (bcell hb3).1 (w.heap.size + 1) o (by first | (simp; done) | assumption | (simp; omega)); have hf3_1 := fun o => (bcell hb3).2 (w.heap.size + 1) o (by first | (simp; done) | assumption | (simp; omega)); have z3_1 : w.heap.size + 1 < w3.heap.size := zz hb3 (by first | (simp; done) | assumption | (simp; omega))
  go_wp2
  go_ret2
  exact ⟨rfl, by repeat (with_reducible (first | exact Below.refl _ _ | assumption | apply ba | apply bd | apply bdr | (refine bs ?_ (by first | assumption | (simp; done) | (simp; omega))) | (refine bt ?_ (by assumption))))⟩
theorem order_no3 (n c : Int) (s : ByteArray) (b : Bool) (k2 n2 c2 : Int) (s2 : ByteArray) (b2 : Bool) (w : World) (N1 : Hid (Gives 16 #[.agg #[.int .i64 4, .int .i64 n, .int .i64 c, .string s, .bool b]] (.bool false))) (T1 : Hid (Gives 59 #[.agg #[.int .i64 4, .int .i64 n, .int .i64 c, .string s, .bool b]] (.bool false))) (hk : k2 ≠ 4) : Calls Tryz.prog 30 #[.agg #[.int .i64 4, .int .i64 n, .int .i64 c, .string s, .bool b], .agg #[.int .i64 k2, .int .i64 n2, .int .i64 c2, .string s2, .bool b2]] w fun e w' => e = .returned (.tuple #[.int .i64 0, .int .i64 44]) ∧ Below w.heap.size w w' := by
  have k4 : (k2 == 4) = false := by simpa using hk
  clear hk
  go_enter Tryz.func30, Tryz.ntmps30
  go_wp2_with fail
  refine (N1.out.call _).mono ?_
  rintro e w1 ⟨rfl, hb1⟩; have B1 : Below w.heap.size w w1 := (by repeat (with_reducible (first | exact Below.refl _ _ | assumption | apply ba | apply bd | apply bdr | (refine bs ?_ (by first | assumption | (simp; done) | (simp; omega))) | (refine bt ?_ (by assumption))))); have y1 := B1.size; have hc1_0 := fun o => (bcell hb1).1 (w.heap.size) o (by first | (simp; done) | assumption | (simp; omega)); have hf1_0 := fun o => (bcell hb1).2 (w.heap.size) o (by first | (simp; done) | assumption | (simp; omega)); have z1_0 : w.heap.size < w1.heap.size := zz hb1 (by first | (simp; done) | assumption | (simp; omega)); have hc1_1 := fun o => (bcell hb1).1 (w.heap.size + 1) o (by first | (simp; done) | assumption | (simp; omega)); have hf1_1 := fun o => (bcell hb1).2 (w.heap.size + 1) o (by first | (simp; done) | assumption | (simp; omega)); have z1_1 : w.heap.size + 1 < w1.heap.size := zz hb1 (by first | (simp; done) | assumption | (simp; omega))
  go_wp2_with fail
  refine (T1.out.call _).mono ?_
  rintro e w2 ⟨rfl, hb2⟩; have B2 : Below w.heap.size w w2 := (by repeat (with_reducible (first | exact Below.refl _ _ | assumption | apply ba | apply bd | apply bdr | (refine bs ?_ (by first | assumption | (simp; done) | (simp; omega))) | (refine bt ?_ (by assumption))))); have y2 := B2.size; have hc2_0 := fun o => (bcell hb2).1 (w.heap.size) o (by first | (simp; done) | assumption | (simp; omega)); have hf2_0 := fun o => (bcell hb2).2 (w.heap.size) o (by first | (simp; done) | assumption | (simp; omega)); have z2_0 : w.heap.size < w2.heap.size := zz hb2 (by first | (simp; done) | assumption | (simp; omega)); have hc2_1 := fun o => (bcell hb2).1 (w.heap.size + 1) o (by first | (simp; done) | assumption | (simp; omega)); have hf2_1 := fun o => (bcell hb2).2 (w.heap.size + 1) o (by first | (simp; done) | assumption | (simp; omega)); have z2_1 : w.heap.size + 1 < w2.heap.size := zz hb2 (by first | (simp; done) | assumption | (simp; omega))
  go_wp2
  go_ret2
  exact ⟨rfl, by repeat (with_reducible (first | exact Below.refl _ _ | assumption | apply ba | apply bd | apply bdr | (refine bs ?_ (by first | assumption | (simp; done) | (simp; omega))) | (refine bt ?_ (by assumption))))⟩
end Go.Proofs.YtemgabmafmehnaaGreatDoor
namespace Go.Proofs.YtemgabmafmehnaaGreatDoor
open Go.Shelf Go.RowKit Go.Proofs.Wide Go.Proofs.Dig
set_option maxRecDepth 100000
set_option maxHeartbeats 4000000
def orderZ : AV → AV → Option Int
  | .int n, .int m => some (cmpZ n 0 m 0)
  | .int n, .dec m d => some (cmpZ n 0 m d)
  | .dec n c, .int m => some (cmpZ n c m 0)
  | .dec n c, .dec m d => some (cmpZ n c m d)
  | .str l, .str u => some (Lib.compareBytes l u)
  | .str l, .raw u => some (Lib.compareBytes l u)
  | .raw l, .str u => some (Lib.compareBytes l u)
  | .raw l, .raw u => some (Lib.compareBytes l u)
  | .boo x, .boo y => some (if x = y then 0 else if y then -1 else 1)
  | _, _ => none
def outO : Option Int → Value
  | some r => .tuple #[.int .i64 r, .int .i64 0]
  | none => .tuple #[.int .i64 0, .int .i64 44]
theorem cmp_gt {n m : Int} {k l : Nat} (h : RightZ n k) (h' : RightZ m l) : Hid (Gives 28 #[.agg #[.int .i64 n, .int .i64 (k : Int)], .agg #[.int .i64 m, .int .i64 (l : Int)]] (.int .i64 (cmpZ n k m l))) := gives_unfold fun w => cmp_any n m k l h h' w
theorem compare_gt (l u : List UInt8) : Hid (Gives 60 #[.string (ba' l), .string (ba' u)] (.int .i64 (Lib.compareBytes l u))) := same_gives fun w => compare_any (ba' l) (ba' u) w
theorem truths_gt (x y : Bool) : Hid (Gives 61 #[.bool x, .bool y] (.int .i64 (if x = y then 0 else if y then -1 else 1))) := gives_unfold fun w => by
  cases x <;> cases y
  · exact truths_false_false w
  · exact truths_false_true w
  · exact truths_true_false w
  · exact truths_true_true w
theorem order_av (a b : AV) (ha : a.ok) (hb : b.ok) : Hid (Gives 30 #[a.v, b.v] (outO (orderZ a b))) := gives_unfold fun w => by
  cases a with
  | int n =>
    cases b with
    | int m => exact order_num 1 n 0 ⟨#[]⟩ false 1 m 0 ⟨#[]⟩ false _ _ _ _ _ w (gives_unfold fun w => atNumeric'_1 n 0 ⟨#[]⟩ false w) (gives_unfold fun w => atNumeric'_1 m 0 ⟨#[]⟩ false w) (gives_unfold fun w => atNum_int' n 0 ⟨#[]⟩ false w) (gives_unfold fun w => atNum_int' m 0 ⟨#[]⟩ false w) (cmp_gt (k := 0) (l := 0) ha hb)
    | dec m d => exact order_num 1 n 0 ⟨#[]⟩ false 2 m d ⟨#[]⟩ false _ _ _ _ _ w (gives_unfold fun w => atNumeric'_1 n 0 ⟨#[]⟩ false w) (gives_unfold fun w => atNumeric'_2 m d ⟨#[]⟩ false w) (gives_unfold fun w => atNum_int' n 0 ⟨#[]⟩ false w) (gives_unfold fun w => atNum_dec' m d ⟨#[]⟩ false w) (cmp_gt (k := 0) ha hb)
    | str u => exact order_no1 1 n 0 ⟨#[]⟩ false 3 0 0 (ba' u) false w (gives_unfold fun w => atNumeric'_1 n 0 ⟨#[]⟩ false w) (gives_unfold fun w => atNumeric'_3 0 0 (ba' u) false w) (gives_unfold fun w => cmTextual'_1 n 0 ⟨#[]⟩ false w) (by decide)
    | boo y => exact order_no1 1 n 0 ⟨#[]⟩ false 4 0 0 ⟨#[]⟩ y w (gives_unfold fun w => atNumeric'_1 n 0 ⟨#[]⟩ false w) (gives_unfold fun w => atNumeric'_4 0 0 ⟨#[]⟩ y w) (gives_unfold fun w => cmTextual'_1 n 0 ⟨#[]⟩ false w) (by decide)
    | raw u => exact order_no1 1 n 0 ⟨#[]⟩ false 5 0 0 (ba' u) false w (gives_unfold fun w => atNumeric'_1 n 0 ⟨#[]⟩ false w) (gives_unfold fun w => atNumeric'_5 0 0 (ba' u) false w) (gives_unfold fun w => cmTextual'_1 n 0 ⟨#[]⟩ false w) (by decide)
  | dec n c =>
    cases b with
    | int m => exact order_num 2 n c ⟨#[]⟩ false 1 m 0 ⟨#[]⟩ false _ _ _ _ _ w (gives_unfold fun w => atNumeric'_2 n c ⟨#[]⟩ false w) (gives_unfold fun w => atNumeric'_1 m 0 ⟨#[]⟩ false w) (gives_unfold fun w => atNum_dec' n c ⟨#[]⟩ false w) (gives_unfold fun w => atNum_int' m 0 ⟨#[]⟩ false w) (cmp_gt (l := 0) ha hb)
    | dec m d => exact order_num 2 n c ⟨#[]⟩ false 2 m d ⟨#[]⟩ false _ _ _ _ _ w (gives_unfold fun w => atNumeric'_2 n c ⟨#[]⟩ false w) (gives_unfold fun w => atNumeric'_2 m d ⟨#[]⟩ false w) (gives_unfold fun w => atNum_dec' n c ⟨#[]⟩ false w) (gives_unfold fun w => atNum_dec' m d ⟨#[]⟩ false w) (cmp_gt ha hb)
    | str u => exact order_no1 2 n c ⟨#[]⟩ false 3 0 0 (ba' u) false w (gives_unfold fun w => atNumeric'_2 n c ⟨#[]⟩ false w) (gives_unfold fun w => atNumeric'_3 0 0 (ba' u) false w) (gives_unfold fun w => cmTextual'_2 n c ⟨#[]⟩ false w) (by decide)
    | boo y => exact order_no1 2 n c ⟨#[]⟩ false 4 0 0 ⟨#[]⟩ y w (gives_unfold fun w => atNumeric'_2 n c ⟨#[]⟩ false w) (gives_unfold fun w => atNumeric'_4 0 0 ⟨#[]⟩ y w) (gives_unfold fun w => cmTextual'_2 n c ⟨#[]⟩ false w) (by decide)
    | raw u => exact order_no1 2 n c ⟨#[]⟩ false 5 0 0 (ba' u) false w (gives_unfold fun w => atNumeric'_2 n c ⟨#[]⟩ false w) (gives_unfold fun w => atNumeric'_5 0 0 (ba' u) false w) (gives_unfold fun w => cmTextual'_2 n c ⟨#[]⟩ false w) (by decide)
  | str l =>
    cases b with
    | int m => exact order_no2 3 0 0 (ba' l) false 1 m 0 ⟨#[]⟩ false w (gives_unfold fun w => atNumeric'_3 0 0 (ba' l) false w) (gives_unfold fun w => cmTextual'_3 0 0 (ba' l) false w) (gives_unfold fun w => cmTextual'_1 m 0 ⟨#[]⟩ false w) (by decide)
    | dec m d => exact order_no2 3 0 0 (ba' l) false 2 m d ⟨#[]⟩ false w (gives_unfold fun w => atNumeric'_3 0 0 (ba' l) false w) (gives_unfold fun w => cmTextual'_3 0 0 (ba' l) false w) (gives_unfold fun w => cmTextual'_2 m d ⟨#[]⟩ false w) (by decide)
    | str u => exact order_txt 3 0 0 (ba' l) false 3 0 0 (ba' u) false _ w (gives_unfold fun w => atNumeric'_3 0 0 (ba' l) false w) (gives_unfold fun w => cmTextual'_3 0 0 (ba' l) false w) (gives_unfold fun w => cmTextual'_3 0 0 (ba' u) false w) (compare_gt _ _)
    | boo y => exact order_no2 3 0 0 (ba' l) false 4 0 0 ⟨#[]⟩ y w (gives_unfold fun w => atNumeric'_3 0 0 (ba' l) false w) (gives_unfold fun w => cmTextual'_3 0 0 (ba' l) false w) (gives_unfold fun w => cmTextual'_4 0 0 ⟨#[]⟩ y w) (by decide)
    | raw u => exact order_txt 3 0 0 (ba' l) false 5 0 0 (ba' u) false _ w (gives_unfold fun w => atNumeric'_3 0 0 (ba' l) false w) (gives_unfold fun w => cmTextual'_3 0 0 (ba' l) false w) (gives_unfold fun w => cmTextual'_5 0 0 (ba' u) false w) (compare_gt _ _)
  | boo x =>
    cases b with
    | int m => exact order_no3 0 0 ⟨#[]⟩ x 1 m 0 ⟨#[]⟩ false w (gives_unfold fun w => atNumeric'_4 0 0 ⟨#[]⟩ x w) (gives_unfold fun w => cmTextual'_4 0 0 ⟨#[]⟩ x w) (by decide)
    | dec m d => exact order_no3 0 0 ⟨#[]⟩ x 2 m d ⟨#[]⟩ false w (gives_unfold fun w => atNumeric'_4 0 0 ⟨#[]⟩ x w) (gives_unfold fun w => cmTextual'_4 0 0 ⟨#[]⟩ x w) (by decide)
    | str u => exact order_no3 0 0 ⟨#[]⟩ x 3 0 0 (ba' u) false w (gives_unfold fun w => atNumeric'_4 0 0 ⟨#[]⟩ x w) (gives_unfold fun w => cmTextual'_4 0 0 ⟨#[]⟩ x w) (by decide)
    | boo y => exact order_boo 0 0 ⟨#[]⟩ x 0 0 ⟨#[]⟩ y _ w (gives_unfold fun w => atNumeric'_4 0 0 ⟨#[]⟩ x w) (gives_unfold fun w => cmTextual'_4 0 0 ⟨#[]⟩ x w) (truths_gt _ _)
    | raw u => exact order_no3 0 0 ⟨#[]⟩ x 5 0 0 (ba' u) false w (gives_unfold fun w => atNumeric'_4 0 0 ⟨#[]⟩ x w) (gives_unfold fun w => cmTextual'_4 0 0 ⟨#[]⟩ x w) (by decide)
  | raw l =>
    cases b with
    | int m => exact order_no2 5 0 0 (ba' l) false 1 m 0 ⟨#[]⟩ false w (gives_unfold fun w => atNumeric'_5 0 0 (ba' l) false w) (gives_unfold fun w => cmTextual'_5 0 0 (ba' l) false w) (gives_unfold fun w => cmTextual'_1 m 0 ⟨#[]⟩ false w) (by decide)
    | dec m d => exact order_no2 5 0 0 (ba' l) false 2 m d ⟨#[]⟩ false w (gives_unfold fun w => atNumeric'_5 0 0 (ba' l) false w) (gives_unfold fun w => cmTextual'_5 0 0 (ba' l) false w) (gives_unfold fun w => cmTextual'_2 m d ⟨#[]⟩ false w) (by decide)
    | str u => exact order_txt 5 0 0 (ba' l) false 3 0 0 (ba' u) false _ w (gives_unfold fun w => atNumeric'_5 0 0 (ba' l) false w) (gives_unfold fun w => cmTextual'_5 0 0 (ba' l) false w) (gives_unfold fun w => cmTextual'_3 0 0 (ba' u) false w) (compare_gt _ _)
    | boo y => exact order_no2 5 0 0 (ba' l) false 4 0 0 ⟨#[]⟩ y w (gives_unfold fun w => atNumeric'_5 0 0 (ba' l) false w) (gives_unfold fun w => cmTextual'_5 0 0 (ba' l) false w) (gives_unfold fun w => cmTextual'_4 0 0 ⟨#[]⟩ y w) (by decide)
    | raw u => exact order_txt 5 0 0 (ba' l) false 5 0 0 (ba' u) false _ w (gives_unfold fun w => atNumeric'_5 0 0 (ba' l) false w) (gives_unfold fun w => cmTextual'_5 0 0 (ba' l) false w) (gives_unfold fun w => cmTextual'_5 0 0 (ba' u) false w) (compare_gt _ _)
theorem holds_13 (r : Int) (w : World) : Calls Tryz.prog 64 #[.int .i64 13, .int .i64 r] w fun e w' => e = .returned (.bool (r == 0)) ∧ Below w.heap.size w w' := by
  go_enter Tryz.func64, Tryz.ntmps64
  go_wp2
  go_ret
  exact ⟨by first | rfl | exact ret_bool (by simp), Below.refl _ _⟩
theorem holds_14 (r : Int) (w : World) : Calls Tryz.prog 64 #[.int .i64 14, .int .i64 r] w fun e w' => e = .returned (.bool (r != 0)) ∧ Below w.heap.size w w' := by
  go_enter Tryz.func64, Tryz.ntmps64
  go_wp2
  go_ret
  exact ⟨by first | rfl | exact ret_bool (by simp), Below.refl _ _⟩
theorem holds_15 (r : Int) (w : World) : Calls Tryz.prog 64 #[.int .i64 15, .int .i64 r] w fun e w' => e = .returned (.bool (decide (r < 0))) ∧ Below w.heap.size w w' := by
  go_enter Tryz.func64, Tryz.ntmps64
  go_wp2
  go_ret
  exact ⟨by first | rfl | exact ret_bool (by simp), Below.refl _ _⟩
theorem holds_16 (r : Int) (w : World) : Calls Tryz.prog 64 #[.int .i64 16, .int .i64 r] w fun e w' => e = .returned (.bool (decide (r ≤ 0))) ∧ Below w.heap.size w w' := by
  go_enter Tryz.func64, Tryz.ntmps64
  go_wp2
  go_ret
  exact ⟨by first | rfl | exact ret_bool (by simp), Below.refl _ _⟩
theorem holds_17 (r : Int) (w : World) : Calls Tryz.prog 64 #[.int .i64 17, .int .i64 r] w fun e w' => e = .returned (.bool (decide (0 < r))) ∧ Below w.heap.size w w' := by
  go_enter Tryz.func64, Tryz.ntmps64
  go_wp2
  go_ret
  exact ⟨by first | rfl | exact ret_bool (by simp), Below.refl _ _⟩
theorem holds_18 (r : Int) (w : World) : Calls Tryz.prog 64 #[.int .i64 18, .int .i64 r] w fun e w' => e = .returned (.bool (decide (0 ≤ r))) ∧ Below w.heap.size w w' := by
  go_enter Tryz.func64, Tryz.ntmps64
  go_wp2
  go_ret
  exact ⟨by first | rfl | exact ret_bool (by simp), Below.refl _ _⟩
def holdsZ (op r : Int) : Bool := if op = 13 then r == 0 else if op = 14 then r != 0 else if op = 15 then decide (r < 0) else if op = 16 then decide (r ≤ 0) else if op = 17 then decide (0 < r) else decide (0 ≤ r)
theorem holds_gt (op r : Int) (h1 : 13 ≤ op) (h2 : op ≤ 18) : Hid (Gives 64 #[.int .i64 op, .int .i64 r] (.bool (holdsZ op r))) := gives_unfold fun w => by
  rcases (by omega : op = 13 ∨ op = 14 ∨ op = 15 ∨ op = 16 ∨ op = 17 ∨ op = 18) with rfl | rfl | rfl | rfl | rfl | rfl
  · exact holds_13 r w
  · exact holds_14 r w
  · exact holds_15 r w
  · exact holds_16 r w
  · exact holds_17 r w
  · exact holds_18 r w
theorem value_low (k n c : Int) (s : ByteArray) (b : Bool) (k2 n2 c2 : Int) (s2 : ByteArray) (b2 : Bool) (op : Int) (w : World) (h : op < 13) : Calls Tryz.prog 32 #[.int .i64 op, .agg #[.int .i64 k, .int .i64 n, .int .i64 c, .string s, .bool b], .agg #[.int .i64 k2, .int .i64 n2, .int .i64 c2, .string s2, .bool b2]] w fun e w' => e = .returned (.tuple #[.bool false, .int .i64 2]) ∧ Below w.heap.size w w' := by
  go_enter Tryz.func32, Tryz.ntmps32
  go_wp2
  go_ret2
  exact ⟨rfl, by repeat (with_reducible (first | exact Below.refl _ _ | assumption | apply ba | apply bd | apply bdr | (refine bs ?_ (by first | assumption | (simp; done) | (simp; omega))) | (refine bt ?_ (by assumption))))⟩
theorem value_high (k n c : Int) (s : ByteArray) (b : Bool) (k2 n2 c2 : Int) (s2 : ByteArray) (b2 : Bool) (op : Int) (w : World) (h : 18 < op) : Calls Tryz.prog 32 #[.int .i64 op, .agg #[.int .i64 k, .int .i64 n, .int .i64 c, .string s, .bool b], .agg #[.int .i64 k2, .int .i64 n2, .int .i64 c2, .string s2, .bool b2]] w fun e w' => e = .returned (.tuple #[.bool false, .int .i64 2]) ∧ Below w.heap.size w w' := by
  have g : ¬ op < 13 := by omega
  go_enter Tryz.func32, Tryz.ntmps32
  go_wp2
  go_ret2
  exact ⟨rfl, by repeat (with_reducible (first | exact Below.refl _ _ | assumption | apply ba | apply bd | apply bdr | (refine bs ?_ (by first | assumption | (simp; done) | (simp; omega))) | (refine bt ?_ (by assumption))))⟩
theorem value_err (k n c : Int) (s : ByteArray) (b : Bool) (k2 n2 c2 : Int) (s2 : ByteArray) (b2 : Bool) (op e1 : Int) (w : World) (h1 : 13 ≤ op) (h2 : op ≤ 18) (HO : Hid (Gives 30 #[.agg #[.int .i64 k, .int .i64 n, .int .i64 c, .string s, .bool b], .agg #[.int .i64 k2, .int .i64 n2, .int .i64 c2, .string s2, .bool b2]] (.tuple #[.int .i64 0, .int .i64 e1]))) (he : e1 ≠ 0) : Calls Tryz.prog 32 #[.int .i64 op, .agg #[.int .i64 k, .int .i64 n, .int .i64 c, .string s, .bool b], .agg #[.int .i64 k2, .int .i64 n2, .int .i64 c2, .string s2, .bool b2]] w fun e w' => e = .returned (.tuple #[.bool false, .int .i64 e1]) ∧ Below w.heap.size w w' := by
  have g1 : ¬ op < 13 := by omega
  have g2 : ¬ 18 < op := by omega
  clear h1 h2
  have e0 : (e1 == 0) = false := by simpa using he
  have e2 : (e1 != 0) = true := by simpa using he
  clear he
  go_enter Tryz.func32, Tryz.ntmps32
  go_wp2_with fail
  refine (HO.out.call _).mono ?_
  rintro e w1 ⟨rfl, hb1⟩; have B1 : Below w.heap.size w w1 := (by repeat (with_reducible (first | exact Below.refl _ _ | assumption | apply ba | apply bd | apply bdr | (refine bs ?_ (by first | assumption | (simp; done) | (simp; omega))) | (refine bt ?_ (by assumption))))); have y1 := B1.size; have hc1_0 := fun o => (bcell hb1).1 (w.heap.size) o (by first | (simp; done) | assumption | (simp; omega)); have hf1_0 := fun o => (bcell hb1).2 (w.heap.size) o (by first | (simp; done) | assumption | (simp; omega)); have z1_0 : w.heap.size < w1.heap.size := zz hb1 (by first | (simp; done) | assumption | (simp; omega)); have hc1_1 := fun o => (bcell hb1).1 (w.heap.size + 1) o (by first | (simp; done) | assumption | (simp; omega)); have hf1_1 := fun o => (bcell hb1).2 (w.heap.size + 1) o (by first | (simp; done) | assumption | (simp; omega)); have z1_1 : w.heap.size + 1 < w1.heap.size := zz hb1 (by first | (simp; done) | assumption | (simp; omega))
  go_wp2
  go_ret2
  exact ⟨rfl, by repeat (with_reducible (first | exact Below.refl _ _ | assumption | apply ba | apply bd | apply bdr | (refine bs ?_ (by first | assumption | (simp; done) | (simp; omega))) | (refine bt ?_ (by assumption))))⟩
theorem value_ok (k n c : Int) (s : ByteArray) (b : Bool) (k2 n2 c2 : Int) (s2 : ByteArray) (b2 : Bool) (op r : Int) (h : Bool) (w : World) (h1 : 13 ≤ op) (h2 : op ≤ 18) (HO : Hid (Gives 30 #[.agg #[.int .i64 k, .int .i64 n, .int .i64 c, .string s, .bool b], .agg #[.int .i64 k2, .int .i64 n2, .int .i64 c2, .string s2, .bool b2]] (.tuple #[.int .i64 r, .int .i64 0]))) (HH : Hid (Gives 64 #[.int .i64 op, .int .i64 r] (.bool h))) : Calls Tryz.prog 32 #[.int .i64 op, .agg #[.int .i64 k, .int .i64 n, .int .i64 c, .string s, .bool b], .agg #[.int .i64 k2, .int .i64 n2, .int .i64 c2, .string s2, .bool b2]] w fun e w' => e = .returned (.tuple #[.bool h, .int .i64 0]) ∧ Below w.heap.size w w' := by
  have g1 : ¬ op < 13 := by omega
  have g2 : ¬ 18 < op := by omega
  clear h1 h2
  go_enter Tryz.func32, Tryz.ntmps32
  go_wp2_with fail
  refine (HO.out.call _).mono ?_
  rintro e w1 ⟨rfl, hb1⟩; have B1 : Below w.heap.size w w1 := (by repeat (with_reducible (first | exact Below.refl _ _ | assumption | apply ba | apply bd | apply bdr | (refine bs ?_ (by first | assumption | (simp; done) | (simp; omega))) | (refine bt ?_ (by assumption))))); have y1 := B1.size; have hc1_0 := fun o => (bcell hb1).1 (w.heap.size) o (by first | (simp; done) | assumption | (simp; omega)); have hf1_0 := fun o => (bcell hb1).2 (w.heap.size) o (by first | (simp; done) | assumption | (simp; omega)); have z1_0 : w.heap.size < w1.heap.size := zz hb1 (by first | (simp; done) | assumption | (simp; omega)); have hc1_1 := fun o => (bcell hb1).1 (w.heap.size + 1) o (by first | (simp; done) | assumption | (simp; omega)); have hf1_1 := fun o => (bcell hb1).2 (w.heap.size + 1) o (by first | (simp; done) | assumption | (simp; omega)); have z1_1 : w.heap.size + 1 < w1.heap.size := zz hb1 (by first | (simp; done) | assumption | (simp; omega))
  go_wp2_with fail
  refine (HH.out.call _).mono ?_
  rintro e w2 ⟨rfl, hb2⟩; have B2 : Below w.heap.size w w2 := (by repeat (with_reducible (first | exact Below.refl _ _ | assumption | apply ba | apply bd | apply bdr | (refine bs ?_ (by first | assumption | (simp; done) | (simp; omega))) | (refine bt ?_ (by assumption))))); have y2 := B2.size; have hc2_0 := fun o => (bcell hb2).1 (w.heap.size) o (by first | (simp; done) | assumption | (simp; omega)); have hf2_0 := fun o => (bcell hb2).2 (w.heap.size) o (by first | (simp; done) | assumption | (simp; omega)); have z2_0 : w.heap.size < w2.heap.size := zz hb2 (by first | (simp; done) | assumption | (simp; omega)); have hc2_1 := fun o => (bcell hb2).1 (w.heap.size + 1) o (by first | (simp; done) | assumption | (simp; omega)); have hf2_1 := fun o => (bcell hb2).2 (w.heap.size + 1) o (by first | (simp; done) | assumption | (simp; omega)); have z2_1 : w.heap.size + 1 < w2.heap.size := zz hb2 (by first | (simp; done) | assumption | (simp; omega))
  go_wp2
  go_ret2
  exact ⟨rfl, by repeat (with_reducible (first | exact Below.refl _ _ | assumption | apply ba | apply bd | apply bdr | (refine bs ?_ (by first | assumption | (simp; done) | (simp; omega))) | (refine bt ?_ (by assumption))))⟩
def valZ (op : Int) (a b : AV) : Bool × Int := if op < 13 ∨ 18 < op then (false, 2) else match orderZ a b with | none => (false, 44) | some r => (holdsZ op r, 0)
def outV2 (p : Bool × Int) : Value := .tuple #[.bool p.1, .int .i64 p.2]
theorem value_av (op : Int) (a b : AV) (ha : a.ok) (hb : b.ok) : Hid (Gives 32 #[.int .i64 op, a.v, b.v] (outV2 (valZ op a b))) := gives_unfold fun w => by
  have ho := order_av a b ha hb
  obtain ⟨k, n, c, s, x, e⟩ := v_fields a
  obtain ⟨k2, n2, c2, s2, x2, e2⟩ := v_fields b
  rw [e, e2] at ho ⊢
  by_cases h1 : op < 13
  · have o : valZ op a b = (false, 2) := by unfold valZ; rw [if_pos (.inl h1)]
    rw [o]; exact value_low k n c s x k2 n2 c2 s2 x2 op w h1
  by_cases h2 : 18 < op
  · have o : valZ op a b = (false, 2) := by unfold valZ; rw [if_pos (.inr h2)]
    rw [o]; exact value_high k n c s x k2 n2 c2 s2 x2 op w h2
  cases hr : orderZ a b with
  | none =>
    have o : valZ op a b = (false, 44) := by unfold valZ; rw [if_neg (by omega), hr]
    rw [o]; rw [hr] at ho
    exact value_err k n c s x k2 n2 c2 s2 x2 op 44 w (by omega) (by omega) ho (by decide)
  | some r =>
    have o : valZ op a b = (holdsZ op r, 0) := by unfold valZ; rw [if_neg (by omega), hr]
    rw [o]; rw [hr] at ho
    exact value_ok k n c s x k2 n2 c2 s2 x2 op r _ w (by omega) (by omega) ho (holds_gt op r (by omega) (by omega))
end Go.Proofs.YtemgabmafmehnaaGreatDoor
