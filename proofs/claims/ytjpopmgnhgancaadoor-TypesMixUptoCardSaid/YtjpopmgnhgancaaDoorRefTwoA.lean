/- The reference: two types in one: either. No condition beyond what the theorems state. -/
import Derived.Test.YtjpopmgnhgancaaDoorRefLeast
namespace Go.Proofs.YtjpopmgnhgancaaDoor
open Go.RowKit Go.Lib
set_option maxRecDepth 100000
set_option maxHeartbeats 16000000
theorem tw0_tff_tff (xi xo yi yo ki ri ro : Nat) (xn yn kn rn : ByteArray) (HX : Hid (∀ w1 : World, Calls Tryd.prog 37 #[.agg #[.int .i64 (xi : Nat), .string xn, .int .i64 (xo : Nat)]] w1 fun e w' => e = .returned (.tuple #[.bool true, .bool false, .bool false]) ∧ Below w1.heap.size w1 w')) (HY : Hid (∀ w1 : World, Calls Tryd.prog 37 #[.agg #[.int .i64 (yi : Nat), .string yn, .int .i64 (yo : Nat)]] w1 fun e w' => e = .returned (.tuple #[.bool true, .bool false, .bool false]) ∧ Below w1.heap.size w1 w')) (HL : Hid (∀ w1 : World, Calls Tryd.prog 48 #[.agg #[.int .i64 (xi : Nat), .string xn, .int .i64 (xo : Nat)], .agg #[.int .i64 (yi : Nat), .string yn, .int .i64 (yo : Nat)]] w1 fun e w' => (∃ o : Nat, e = .returned (.agg #[.int .i64 (ki : Nat), .string kn, .int .i64 (o : Nat)])) ∧ Below w1.heap.size w1 w')) (HO : Hid (∀ (o : Nat) (w1 : World), Calls Tryd.prog 49 #[.agg #[.int .i64 (ki : Nat), .string kn, .int .i64 (o : Nat)], .bool true, .bool false, .bool false] w1 fun e w' => e = .returned (.agg #[.int .i64 (ri : Nat), .string rn, .int .i64 (ro : Nat)]) ∧ Below w1.heap.size w1 w')) (w : World) :
    Calls Tryd.prog 21 #[.int .i64 0, .agg #[.int .i64 (xi : Nat), .string xn, .int .i64 (xo : Nat)], .agg #[.int .i64 (yi : Nat), .string yn, .int .i64 (yo : Nat)]] w fun e w' => e = .returned (.agg #[.int .i64 (ri : Nat), .string rn, .int .i64 (ro : Nat)]) ∧ Below w.heap.size w w' := by
  go_enter Tryd.func21, Tryd.ntmps21
  go_wp2_with fail
  refine (HX.out _).mono ?_
  rintro e w1 ⟨rfl, hb1⟩
  have B1 : Below w.heap.size w w1 := (by repeat (with_reducible (first | exact Below.refl _ _ | assumption | apply ba | apply bd | apply bdr | (refine bs ?_ (by first | assumption | (simp; done) | (simp; omega))) | (refine bt ?_ (by assumption)))))
  have hc1_0 := fun o => (bcell hb1).1 (w.heap.size) o (by first | (simp; done) | assumption | (simp; omega))
  have hf1_0 := fun o => (bcell hb1).2 (w.heap.size) o (by first | (simp; done) | assumption | (simp; omega))
  have zz1_0 : w.heap.size < w1.heap.size := zz hb1 (by first | (simp; done) | assumption | (simp; omega))
  have hc1_1 := fun o => (bcell hb1).1 (w.heap.size + 1) o (by first | (simp; done) | assumption | (simp; omega))
  have hf1_1 := fun o => (bcell hb1).2 (w.heap.size + 1) o (by first | (simp; done) | assumption | (simp; omega))
  have zz1_1 : w.heap.size + 1 < w1.heap.size := zz hb1 (by first | (simp; done) | assumption | (simp; omega))
  have hc1_2 := fun o => (bcell hb1).1 (w.heap.size + 1 + 1) o (by first | (simp; done) | assumption | (simp; omega))
  have hf1_2 := fun o => (bcell hb1).2 (w.heap.size + 1 + 1) o (by first | (simp; done) | assumption | (simp; omega))
  have zz1_2 : w.heap.size + 1 + 1 < w1.heap.size := zz hb1 (by first | (simp; done) | assumption | (simp; omega))
  go_wp2_with fail
  refine (HY.out _).mono ?_
  rintro e w2 ⟨rfl, hb2⟩
  have B2 : Below w.heap.size w w2 := (by repeat (with_reducible (first | exact Below.refl _ _ | assumption | apply ba | apply bd | apply bdr | (refine bs ?_ (by first | assumption | (simp; done) | (simp; omega))) | (refine bt ?_ (by assumption)))))
  have hc2_0 := fun o => (bcell hb2).1 (w.heap.size) o (by first | (simp; done) | assumption | (simp; omega))
  have hf2_0 := fun o => (bcell hb2).2 (w.heap.size) o (by first | (simp; done) | assumption | (simp; omega))
  have zz2_0 : w.heap.size < w2.heap.size := zz hb2 (by first | (simp; done) | assumption | (simp; omega))
  have hc2_1 := fun o => (bcell hb2).1 (w.heap.size + 1) o (by first | (simp; done) | assumption | (simp; omega))
  have hf2_1 := fun o => (bcell hb2).2 (w.heap.size + 1) o (by first | (simp; done) | assumption | (simp; omega))
  have zz2_1 : w.heap.size + 1 < w2.heap.size := zz hb2 (by first | (simp; done) | assumption | (simp; omega))
  have hc2_2 := fun o => (bcell hb2).1 (w.heap.size + 1 + 1) o (by first | (simp; done) | assumption | (simp; omega))
  have hf2_2 := fun o => (bcell hb2).2 (w.heap.size + 1 + 1) o (by first | (simp; done) | assumption | (simp; omega))
  have zz2_2 : w.heap.size + 1 + 1 < w2.heap.size := zz hb2 (by first | (simp; done) | assumption | (simp; omega))
  go_wp2_with fail
  refine (HL.out _).mono ?_
  rintro e w3 ⟨⟨ko, rfl⟩, hb3⟩
  have B3 : Below w.heap.size w w3 := (by repeat (with_reducible (first | exact Below.refl _ _ | assumption | apply ba | apply bd | apply bdr | (refine bs ?_ (by first | assumption | (simp; done) | (simp; omega))) | (refine bt ?_ (by assumption)))))
  have hc3_0 := fun o => (bcell hb3).1 (w.heap.size) o (by first | (simp; done) | assumption | (simp; omega))
  have hf3_0 := fun o => (bcell hb3).2 (w.heap.size) o (by first | (simp; done) | assumption | (simp; omega))
  have zz3_0 : w.heap.size < w3.heap.size := zz hb3 (by first | (simp; done) | assumption | (simp; omega))
  have hc3_1 := fun o => (bcell hb3).1 (w.heap.size + 1) o (by first | (simp; done) | assumption | (simp; omega))
  have hf3_1 := fun o => (bcell hb3).2 (w.heap.size + 1) o (by first | (simp; done) | assumption | (simp; omega))
  have zz3_1 : w.heap.size + 1 < w3.heap.size := zz hb3 (by first | (simp; done) | assumption | (simp; omega))
  have hc3_2 := fun o => (bcell hb3).1 (w.heap.size + 1 + 1) o (by first | (simp; done) | assumption | (simp; omega))
  have hf3_2 := fun o => (bcell hb3).2 (w.heap.size + 1 + 1) o (by first | (simp; done) | assumption | (simp; omega))
  have zz3_2 : w.heap.size + 1 + 1 < w3.heap.size := zz hb3 (by first | (simp; done) | assumption | (simp; omega))
  go_wp2_with fail
  refine (HO.out _ _).mono ?_
  rintro e w4 ⟨rfl, hb4⟩
  have B4 : Below w.heap.size w w4 := (by repeat (with_reducible (first | exact Below.refl _ _ | assumption | apply ba | apply bd | apply bdr | (refine bs ?_ (by first | assumption | (simp; done) | (simp; omega))) | (refine bt ?_ (by assumption)))))
  have hc4_0 := fun o => (bcell hb4).1 (w.heap.size) o (by first | (simp; done) | assumption | (simp; omega))
  have hf4_0 := fun o => (bcell hb4).2 (w.heap.size) o (by first | (simp; done) | assumption | (simp; omega))
  have zz4_0 : w.heap.size < w4.heap.size := zz hb4 (by first | (simp; done) | assumption | (simp; omega))
  have hc4_1 := fun o => (bcell hb4).1 (w.heap.size + 1) o (by first | (simp; done) | assumption | (simp; omega))
  have hf4_1 := fun o => (bcell hb4).2 (w.heap.size + 1) o (by first | (simp; done) | assumption | (simp; omega))
  have zz4_1 : w.heap.size + 1 < w4.heap.size := zz hb4 (by first | (simp; done) | assumption | (simp; omega))
  have hc4_2 := fun o => (bcell hb4).1 (w.heap.size + 1 + 1) o (by first | (simp; done) | assumption | (simp; omega))
  have hf4_2 := fun o => (bcell hb4).2 (w.heap.size + 1 + 1) o (by first | (simp; done) | assumption | (simp; omega))
  have zz4_2 : w.heap.size + 1 + 1 < w4.heap.size := zz hb4 (by first | (simp; done) | assumption | (simp; omega))
  have hc4_3 := fun o => (bcell hb4).1 (w3.heap.size) o (by first | (simp; done) | assumption | (simp; omega))
  have hf4_3 := fun o => (bcell hb4).2 (w3.heap.size) o (by first | (simp; done) | assumption | (simp; omega))
  have zz4_3 : w3.heap.size < w4.heap.size := zz hb4 (by first | (simp; done) | assumption | (simp; omega))
  go_wp2
  exact bodyPost_ret (v := .agg #[.int .i64 (ri : Nat), .string rn, .int .i64 (ro : Nat)]) (by simp [results, Tryd.results21, go_sem, *] <;> first | rfl | omega) rfl ⟨rfl, (by repeat (with_reducible (first | exact Below.refl _ _ | assumption | apply ba | apply bd | apply bdr | (refine bs ?_ (by first | assumption | (simp; done) | (simp; omega))) | (refine bt ?_ (by assumption)))))⟩
theorem tw0_tff_ftf (xi xo yi yo ki ri ro : Nat) (xn yn kn rn : ByteArray) (HX : Hid (∀ w1 : World, Calls Tryd.prog 37 #[.agg #[.int .i64 (xi : Nat), .string xn, .int .i64 (xo : Nat)]] w1 fun e w' => e = .returned (.tuple #[.bool true, .bool false, .bool false]) ∧ Below w1.heap.size w1 w')) (HY : Hid (∀ w1 : World, Calls Tryd.prog 37 #[.agg #[.int .i64 (yi : Nat), .string yn, .int .i64 (yo : Nat)]] w1 fun e w' => e = .returned (.tuple #[.bool false, .bool true, .bool false]) ∧ Below w1.heap.size w1 w')) (HL : Hid (∀ w1 : World, Calls Tryd.prog 48 #[.agg #[.int .i64 (xi : Nat), .string xn, .int .i64 (xo : Nat)], .agg #[.int .i64 (yi : Nat), .string yn, .int .i64 (yo : Nat)]] w1 fun e w' => (∃ o : Nat, e = .returned (.agg #[.int .i64 (ki : Nat), .string kn, .int .i64 (o : Nat)])) ∧ Below w1.heap.size w1 w')) (HO : Hid (∀ (o : Nat) (w1 : World), Calls Tryd.prog 49 #[.agg #[.int .i64 (ki : Nat), .string kn, .int .i64 (o : Nat)], .bool true, .bool true, .bool false] w1 fun e w' => e = .returned (.agg #[.int .i64 (ri : Nat), .string rn, .int .i64 (ro : Nat)]) ∧ Below w1.heap.size w1 w')) (w : World) :
    Calls Tryd.prog 21 #[.int .i64 0, .agg #[.int .i64 (xi : Nat), .string xn, .int .i64 (xo : Nat)], .agg #[.int .i64 (yi : Nat), .string yn, .int .i64 (yo : Nat)]] w fun e w' => e = .returned (.agg #[.int .i64 (ri : Nat), .string rn, .int .i64 (ro : Nat)]) ∧ Below w.heap.size w w' := by
  go_enter Tryd.func21, Tryd.ntmps21
  go_wp2_with fail
  refine (HX.out _).mono ?_
  rintro e w1 ⟨rfl, hb1⟩
  have B1 : Below w.heap.size w w1 := (by repeat (with_reducible (first | exact Below.refl _ _ | assumption | apply ba | apply bd | apply bdr | (refine bs ?_ (by first | assumption | (simp; done) | (simp; omega))) | (refine bt ?_ (by assumption)))))
  have hc1_0 := fun o => (bcell hb1).1 (w.heap.size) o (by first | (simp; done) | assumption | (simp; omega))
  have hf1_0 := fun o => (bcell hb1).2 (w.heap.size) o (by first | (simp; done) | assumption | (simp; omega))
  have zz1_0 : w.heap.size < w1.heap.size := zz hb1 (by first | (simp; done) | assumption | (simp; omega))
  have hc1_1 := fun o => (bcell hb1).1 (w.heap.size + 1) o (by first | (simp; done) | assumption | (simp; omega))
  have hf1_1 := fun o => (bcell hb1).2 (w.heap.size + 1) o (by first | (simp; done) | assumption | (simp; omega))
  have zz1_1 : w.heap.size + 1 < w1.heap.size := zz hb1 (by first | (simp; done) | assumption | (simp; omega))
  have hc1_2 := fun o => (bcell hb1).1 (w.heap.size + 1 + 1) o (by first | (simp; done) | assumption | (simp; omega))
  have hf1_2 := fun o => (bcell hb1).2 (w.heap.size + 1 + 1) o (by first | (simp; done) | assumption | (simp; omega))
  have zz1_2 : w.heap.size + 1 + 1 < w1.heap.size := zz hb1 (by first | (simp; done) | assumption | (simp; omega))
  go_wp2_with fail
  refine (HY.out _).mono ?_
  rintro e w2 ⟨rfl, hb2⟩
  have B2 : Below w.heap.size w w2 := (by repeat (with_reducible (first | exact Below.refl _ _ | assumption | apply ba | apply bd | apply bdr | (refine bs ?_ (by first | assumption | (simp; done) | (simp; omega))) | (refine bt ?_ (by assumption)))))
  have hc2_0 := fun o => (bcell hb2).1 (w.heap.size) o (by first | (simp; done) | assumption | (simp; omega))
  have hf2_0 := fun o => (bcell hb2).2 (w.heap.size) o (by first | (simp; done) | assumption | (simp; omega))
  have zz2_0 : w.heap.size < w2.heap.size := zz hb2 (by first | (simp; done) | assumption | (simp; omega))
  have hc2_1 := fun o => (bcell hb2).1 (w.heap.size + 1) o (by first | (simp; done) | assumption | (simp; omega))
  have hf2_1 := fun o => (bcell hb2).2 (w.heap.size + 1) o (by first | (simp; done) | assumption | (simp; omega))
  have zz2_1 : w.heap.size + 1 < w2.heap.size := zz hb2 (by first | (simp; done) | assumption | (simp; omega))
  have hc2_2 := fun o => (bcell hb2).1 (w.heap.size + 1 + 1) o (by first | (simp; done) | assumption | (simp; omega))
  have hf2_2 := fun o => (bcell hb2).2 (w.heap.size + 1 + 1) o (by first | (simp; done) | assumption | (simp; omega))
  have zz2_2 : w.heap.size + 1 + 1 < w2.heap.size := zz hb2 (by first | (simp; done) | assumption | (simp; omega))
  go_wp2_with fail
  refine (HL.out _).mono ?_
  rintro e w3 ⟨⟨ko, rfl⟩, hb3⟩
  have B3 : Below w.heap.size w w3 := (by repeat (with_reducible (first | exact Below.refl _ _ | assumption | apply ba | apply bd | apply bdr | (refine bs ?_ (by first | assumption | (simp; done) | (simp; omega))) | (refine bt ?_ (by assumption)))))
  have hc3_0 := fun o => (bcell hb3).1 (w.heap.size) o (by first | (simp; done) | assumption | (simp; omega))
  have hf3_0 := fun o => (bcell hb3).2 (w.heap.size) o (by first | (simp; done) | assumption | (simp; omega))
  have zz3_0 : w.heap.size < w3.heap.size := zz hb3 (by first | (simp; done) | assumption | (simp; omega))
  have hc3_1 := fun o => (bcell hb3).1 (w.heap.size + 1) o (by first | (simp; done) | assumption | (simp; omega))
  have hf3_1 := fun o => (bcell hb3).2 (w.heap.size + 1) o (by first | (simp; done) | assumption | (simp; omega))
  have zz3_1 : w.heap.size + 1 < w3.heap.size := zz hb3 (by first | (simp; done) | assumption | (simp; omega))
  have hc3_2 := fun o => (bcell hb3).1 (w.heap.size + 1 + 1) o (by first | (simp; done) | assumption | (simp; omega))
  have hf3_2 := fun o => (bcell hb3).2 (w.heap.size + 1 + 1) o (by first | (simp; done) | assumption | (simp; omega))
  have zz3_2 : w.heap.size + 1 + 1 < w3.heap.size := zz hb3 (by first | (simp; done) | assumption | (simp; omega))
  go_wp2_with fail
  refine (HO.out _ _).mono ?_
  rintro e w4 ⟨rfl, hb4⟩
  have B4 : Below w.heap.size w w4 := (by repeat (with_reducible (first | exact Below.refl _ _ | assumption | apply ba | apply bd | apply bdr | (refine bs ?_ (by first | assumption | (simp; done) | (simp; omega))) | (refine bt ?_ (by assumption)))))
  have hc4_0 := fun o => (bcell hb4).1 (w.heap.size) o (by first | (simp; done) | assumption | (simp; omega))
  have hf4_0 := fun o => (bcell hb4).2 (w.heap.size) o (by first | (simp; done) | assumption | (simp; omega))
  have zz4_0 : w.heap.size < w4.heap.size := zz hb4 (by first | (simp; done) | assumption | (simp; omega))
  have hc4_1 := fun o => (bcell hb4).1 (w.heap.size + 1) o (by first | (simp; done) | assumption | (simp; omega))
  have hf4_1 := fun o => (bcell hb4).2 (w.heap.size + 1) o (by first | (simp; done) | assumption | (simp; omega))
  have zz4_1 : w.heap.size + 1 < w4.heap.size := zz hb4 (by first | (simp; done) | assumption | (simp; omega))
  have hc4_2 := fun o => (bcell hb4).1 (w.heap.size + 1 + 1) o (by first | (simp; done) | assumption | (simp; omega))
  have hf4_2 := fun o => (bcell hb4).2 (w.heap.size + 1 + 1) o (by first | (simp; done) | assumption | (simp; omega))
  have zz4_2 : w.heap.size + 1 + 1 < w4.heap.size := zz hb4 (by first | (simp; done) | assumption | (simp; omega))
  have hc4_3 := fun o => (bcell hb4).1 (w3.heap.size) o (by first | (simp; done) | assumption | (simp; omega))
  have hf4_3 := fun o => (bcell hb4).2 (w3.heap.size) o (by first | (simp; done) | assumption | (simp; omega))
  have zz4_3 : w3.heap.size < w4.heap.size := zz hb4 (by first | (simp; done) | assumption | (simp; omega))
  go_wp2
  exact bodyPost_ret (v := .agg #[.int .i64 (ri : Nat), .string rn, .int .i64 (ro : Nat)]) (by simp [results, Tryd.results21, go_sem, *] <;> first | rfl | omega) rfl ⟨rfl, (by repeat (with_reducible (first | exact Below.refl _ _ | assumption | apply ba | apply bd | apply bdr | (refine bs ?_ (by first | assumption | (simp; done) | (simp; omega))) | (refine bt ?_ (by assumption)))))⟩
theorem tw0_tff_ttf (xi xo yi yo ki ri ro : Nat) (xn yn kn rn : ByteArray) (HX : Hid (∀ w1 : World, Calls Tryd.prog 37 #[.agg #[.int .i64 (xi : Nat), .string xn, .int .i64 (xo : Nat)]] w1 fun e w' => e = .returned (.tuple #[.bool true, .bool false, .bool false]) ∧ Below w1.heap.size w1 w')) (HY : Hid (∀ w1 : World, Calls Tryd.prog 37 #[.agg #[.int .i64 (yi : Nat), .string yn, .int .i64 (yo : Nat)]] w1 fun e w' => e = .returned (.tuple #[.bool true, .bool true, .bool false]) ∧ Below w1.heap.size w1 w')) (HL : Hid (∀ w1 : World, Calls Tryd.prog 48 #[.agg #[.int .i64 (xi : Nat), .string xn, .int .i64 (xo : Nat)], .agg #[.int .i64 (yi : Nat), .string yn, .int .i64 (yo : Nat)]] w1 fun e w' => (∃ o : Nat, e = .returned (.agg #[.int .i64 (ki : Nat), .string kn, .int .i64 (o : Nat)])) ∧ Below w1.heap.size w1 w')) (HO : Hid (∀ (o : Nat) (w1 : World), Calls Tryd.prog 49 #[.agg #[.int .i64 (ki : Nat), .string kn, .int .i64 (o : Nat)], .bool true, .bool true, .bool false] w1 fun e w' => e = .returned (.agg #[.int .i64 (ri : Nat), .string rn, .int .i64 (ro : Nat)]) ∧ Below w1.heap.size w1 w')) (w : World) :
    Calls Tryd.prog 21 #[.int .i64 0, .agg #[.int .i64 (xi : Nat), .string xn, .int .i64 (xo : Nat)], .agg #[.int .i64 (yi : Nat), .string yn, .int .i64 (yo : Nat)]] w fun e w' => e = .returned (.agg #[.int .i64 (ri : Nat), .string rn, .int .i64 (ro : Nat)]) ∧ Below w.heap.size w w' := by
  go_enter Tryd.func21, Tryd.ntmps21
  go_wp2_with fail
  refine (HX.out _).mono ?_
  rintro e w1 ⟨rfl, hb1⟩
  have B1 : Below w.heap.size w w1 := (by repeat (with_reducible (first | exact Below.refl _ _ | assumption | apply ba | apply bd | apply bdr | (refine bs ?_ (by first | assumption | (simp; done) | (simp; omega))) | (refine bt ?_ (by assumption)))))
  have hc1_0 := fun o => (bcell hb1).1 (w.heap.size) o (by first | (simp; done) | assumption | (simp; omega))
  have hf1_0 := fun o => (bcell hb1).2 (w.heap.size) o (by first | (simp; done) | assumption | (simp; omega))
  have zz1_0 : w.heap.size < w1.heap.size := zz hb1 (by first | (simp; done) | assumption | (simp; omega))
  have hc1_1 := fun o => (bcell hb1).1 (w.heap.size + 1) o (by first | (simp; done) | assumption | (simp; omega))
  have hf1_1 := fun o => (bcell hb1).2 (w.heap.size + 1) o (by first | (simp; done) | assumption | (simp; omega))
  have zz1_1 : w.heap.size + 1 < w1.heap.size := zz hb1 (by first | (simp; done) | assumption | (simp; omega))
  have hc1_2 := fun o => (bcell hb1).1 (w.heap.size + 1 + 1) o (by first | (simp; done) | assumption | (simp; omega))
  have hf1_2 := fun o => (bcell hb1).2 (w.heap.size + 1 + 1) o (by first | (simp; done) | assumption | (simp; omega))
  have zz1_2 : w.heap.size + 1 + 1 < w1.heap.size := zz hb1 (by first | (simp; done) | assumption | (simp; omega))
  go_wp2_with fail
  refine (HY.out _).mono ?_
  rintro e w2 ⟨rfl, hb2⟩
  have B2 : Below w.heap.size w w2 := (by repeat (with_reducible (first | exact Below.refl _ _ | assumption | apply ba | apply bd | apply bdr | (refine bs ?_ (by first | assumption | (simp; done) | (simp; omega))) | (refine bt ?_ (by assumption)))))
  have hc2_0 := fun o => (bcell hb2).1 (w.heap.size) o (by first | (simp; done) | assumption | (simp; omega))
  have hf2_0 := fun o => (bcell hb2).2 (w.heap.size) o (by first | (simp; done) | assumption | (simp; omega))
  have zz2_0 : w.heap.size < w2.heap.size := zz hb2 (by first | (simp; done) | assumption | (simp; omega))
  have hc2_1 := fun o => (bcell hb2).1 (w.heap.size + 1) o (by first | (simp; done) | assumption | (simp; omega))
  have hf2_1 := fun o => (bcell hb2).2 (w.heap.size + 1) o (by first | (simp; done) | assumption | (simp; omega))
  have zz2_1 : w.heap.size + 1 < w2.heap.size := zz hb2 (by first | (simp; done) | assumption | (simp; omega))
  have hc2_2 := fun o => (bcell hb2).1 (w.heap.size + 1 + 1) o (by first | (simp; done) | assumption | (simp; omega))
  have hf2_2 := fun o => (bcell hb2).2 (w.heap.size + 1 + 1) o (by first | (simp; done) | assumption | (simp; omega))
  have zz2_2 : w.heap.size + 1 + 1 < w2.heap.size := zz hb2 (by first | (simp; done) | assumption | (simp; omega))
  go_wp2_with fail
  refine (HL.out _).mono ?_
  rintro e w3 ⟨⟨ko, rfl⟩, hb3⟩
  have B3 : Below w.heap.size w w3 := (by repeat (with_reducible (first | exact Below.refl _ _ | assumption | apply ba | apply bd | apply bdr | (refine bs ?_ (by first | assumption | (simp; done) | (simp; omega))) | (refine bt ?_ (by assumption)))))
  have hc3_0 := fun o => (bcell hb3).1 (w.heap.size) o (by first | (simp; done) | assumption | (simp; omega))
  have hf3_0 := fun o => (bcell hb3).2 (w.heap.size) o (by first | (simp; done) | assumption | (simp; omega))
  have zz3_0 : w.heap.size < w3.heap.size := zz hb3 (by first | (simp; done) | assumption | (simp; omega))
  have hc3_1 := fun o => (bcell hb3).1 (w.heap.size + 1) o (by first | (simp; done) | assumption | (simp; omega))
  have hf3_1 := fun o => (bcell hb3).2 (w.heap.size + 1) o (by first | (simp; done) | assumption | (simp; omega))
  have zz3_1 : w.heap.size + 1 < w3.heap.size := zz hb3 (by first | (simp; done) | assumption | (simp; omega))
  have hc3_2 := fun o => (bcell hb3).1 (w.heap.size + 1 + 1) o (by first | (simp; done) | assumption | (simp; omega))
  have hf3_2 := fun o => (bcell hb3).2 (w.heap.size + 1 + 1) o (by first | (simp; done) | assumption | (simp; omega))
  have zz3_2 : w.heap.size + 1 + 1 < w3.heap.size := zz hb3 (by first | (simp; done) | assumption | (simp; omega))
  go_wp2_with fail
  refine (HO.out _ _).mono ?_
  rintro e w4 ⟨rfl, hb4⟩
  have B4 : Below w.heap.size w w4 := (by repeat (with_reducible (first | exact Below.refl _ _ | assumption | apply ba | apply bd | apply bdr | (refine bs ?_ (by first | assumption | (simp; done) | (simp; omega))) | (refine bt ?_ (by assumption)))))
  have hc4_0 := fun o => (bcell hb4).1 (w.heap.size) o (by first | (simp; done) | assumption | (simp; omega))
  have hf4_0 := fun o => (bcell hb4).2 (w.heap.size) o (by first | (simp; done) | assumption | (simp; omega))
  have zz4_0 : w.heap.size < w4.heap.size := zz hb4 (by first | (simp; done) | assumption | (simp; omega))
  have hc4_1 := fun o => (bcell hb4).1 (w.heap.size + 1) o (by first | (simp; done) | assumption | (simp; omega))
  have hf4_1 := fun o => (bcell hb4).2 (w.heap.size + 1) o (by first | (simp; done) | assumption | (simp; omega))
  have zz4_1 : w.heap.size + 1 < w4.heap.size := zz hb4 (by first | (simp; done) | assumption | (simp; omega))
  have hc4_2 := fun o => (bcell hb4).1 (w.heap.size + 1 + 1) o (by first | (simp; done) | assumption | (simp; omega))
  have hf4_2 := fun o => (bcell hb4).2 (w.heap.size + 1 + 1) o (by first | (simp; done) | assumption | (simp; omega))
  have zz4_2 : w.heap.size + 1 + 1 < w4.heap.size := zz hb4 (by first | (simp; done) | assumption | (simp; omega))
  have hc4_3 := fun o => (bcell hb4).1 (w3.heap.size) o (by first | (simp; done) | assumption | (simp; omega))
  have hf4_3 := fun o => (bcell hb4).2 (w3.heap.size) o (by first | (simp; done) | assumption | (simp; omega))
  have zz4_3 : w3.heap.size < w4.heap.size := zz hb4 (by first | (simp; done) | assumption | (simp; omega))
  go_wp2
  exact bodyPost_ret (v := .agg #[.int .i64 (ri : Nat), .string rn, .int .i64 (ro : Nat)]) (by simp [results, Tryd.results21, go_sem, *] <;> first | rfl | omega) rfl ⟨rfl, (by repeat (with_reducible (first | exact Below.refl _ _ | assumption | apply ba | apply bd | apply bdr | (refine bs ?_ (by first | assumption | (simp; done) | (simp; omega))) | (refine bt ?_ (by assumption)))))⟩
theorem tw0_tff_ftt (xi xo yi yo ki ri ro : Nat) (xn yn kn rn : ByteArray) (HX : Hid (∀ w1 : World, Calls Tryd.prog 37 #[.agg #[.int .i64 (xi : Nat), .string xn, .int .i64 (xo : Nat)]] w1 fun e w' => e = .returned (.tuple #[.bool true, .bool false, .bool false]) ∧ Below w1.heap.size w1 w')) (HY : Hid (∀ w1 : World, Calls Tryd.prog 37 #[.agg #[.int .i64 (yi : Nat), .string yn, .int .i64 (yo : Nat)]] w1 fun e w' => e = .returned (.tuple #[.bool false, .bool true, .bool true]) ∧ Below w1.heap.size w1 w')) (HL : Hid (∀ w1 : World, Calls Tryd.prog 48 #[.agg #[.int .i64 (xi : Nat), .string xn, .int .i64 (xo : Nat)], .agg #[.int .i64 (yi : Nat), .string yn, .int .i64 (yo : Nat)]] w1 fun e w' => (∃ o : Nat, e = .returned (.agg #[.int .i64 (ki : Nat), .string kn, .int .i64 (o : Nat)])) ∧ Below w1.heap.size w1 w')) (HO : Hid (∀ (o : Nat) (w1 : World), Calls Tryd.prog 49 #[.agg #[.int .i64 (ki : Nat), .string kn, .int .i64 (o : Nat)], .bool true, .bool true, .bool true] w1 fun e w' => e = .returned (.agg #[.int .i64 (ri : Nat), .string rn, .int .i64 (ro : Nat)]) ∧ Below w1.heap.size w1 w')) (w : World) :
    Calls Tryd.prog 21 #[.int .i64 0, .agg #[.int .i64 (xi : Nat), .string xn, .int .i64 (xo : Nat)], .agg #[.int .i64 (yi : Nat), .string yn, .int .i64 (yo : Nat)]] w fun e w' => e = .returned (.agg #[.int .i64 (ri : Nat), .string rn, .int .i64 (ro : Nat)]) ∧ Below w.heap.size w w' := by
  go_enter Tryd.func21, Tryd.ntmps21
  go_wp2_with fail
  refine (HX.out _).mono ?_
  rintro e w1 ⟨rfl, hb1⟩
  have B1 : Below w.heap.size w w1 := (by repeat (with_reducible (first | exact Below.refl _ _ | assumption | apply ba | apply bd | apply bdr | (refine bs ?_ (by first | assumption | (simp; done) | (simp; omega))) | (refine bt ?_ (by assumption)))))
  have hc1_0 := fun o => (bcell hb1).1 (w.heap.size) o (by first | (simp; done) | assumption | (simp; omega))
  have hf1_0 := fun o => (bcell hb1).2 (w.heap.size) o (by first | (simp; done) | assumption | (simp; omega))
  have zz1_0 : w.heap.size < w1.heap.size := zz hb1 (by first | (simp; done) | assumption | (simp; omega))
  have hc1_1 := fun o => (bcell hb1).1 (w.heap.size + 1) o (by first | (simp; done) | assumption | (simp; omega))
  have hf1_1 := fun o => (bcell hb1).2 (w.heap.size + 1) o (by first | (simp; done) | assumption | (simp; omega))
  have zz1_1 : w.heap.size + 1 < w1.heap.size := zz hb1 (by first | (simp; done) | assumption | (simp; omega))
  have hc1_2 := fun o => (bcell hb1).1 (w.heap.size + 1 + 1) o (by first | (simp; done) | assumption | (simp; omega))
  have hf1_2 := fun o => (bcell hb1).2 (w.heap.size + 1 + 1) o (by first | (simp; done) | assumption | (simp; omega))
  have zz1_2 : w.heap.size + 1 + 1 < w1.heap.size := zz hb1 (by first | (simp; done) | assumption | (simp; omega))
  go_wp2_with fail
  refine (HY.out _).mono ?_
  rintro e w2 ⟨rfl, hb2⟩
  have B2 : Below w.heap.size w w2 := (by repeat (with_reducible (first | exact Below.refl _ _ | assumption | apply ba | apply bd | apply bdr | (refine bs ?_ (by first | assumption | (simp; done) | (simp; omega))) | (refine bt ?_ (by assumption)))))
  have hc2_0 := fun o => (bcell hb2).1 (w.heap.size) o (by first | (simp; done) | assumption | (simp; omega))
  have hf2_0 := fun o => (bcell hb2).2 (w.heap.size) o (by first | (simp; done) | assumption | (simp; omega))
  have zz2_0 : w.heap.size < w2.heap.size := zz hb2 (by first | (simp; done) | assumption | (simp; omega))
  have hc2_1 := fun o => (bcell hb2).1 (w.heap.size + 1) o (by first | (simp; done) | assumption | (simp; omega))
  have hf2_1 := fun o => (bcell hb2).2 (w.heap.size + 1) o (by first | (simp; done) | assumption | (simp; omega))
  have zz2_1 : w.heap.size + 1 < w2.heap.size := zz hb2 (by first | (simp; done) | assumption | (simp; omega))
  have hc2_2 := fun o => (bcell hb2).1 (w.heap.size + 1 + 1) o (by first | (simp; done) | assumption | (simp; omega))
  have hf2_2 := fun o => (bcell hb2).2 (w.heap.size + 1 + 1) o (by first | (simp; done) | assumption | (simp; omega))
  have zz2_2 : w.heap.size + 1 + 1 < w2.heap.size := zz hb2 (by first | (simp; done) | assumption | (simp; omega))
  go_wp2_with fail
  refine (HL.out _).mono ?_
  rintro e w3 ⟨⟨ko, rfl⟩, hb3⟩
  have B3 : Below w.heap.size w w3 := (by repeat (with_reducible (first | exact Below.refl _ _ | assumption | apply ba | apply bd | apply bdr | (refine bs ?_ (by first | assumption | (simp; done) | (simp; omega))) | (refine bt ?_ (by assumption)))))
  have hc3_0 := fun o => (bcell hb3).1 (w.heap.size) o (by first | (simp; done) | assumption | (simp; omega))
  have hf3_0 := fun o => (bcell hb3).2 (w.heap.size) o (by first | (simp; done) | assumption | (simp; omega))
  have zz3_0 : w.heap.size < w3.heap.size := zz hb3 (by first | (simp; done) | assumption | (simp; omega))
  have hc3_1 := fun o => (bcell hb3).1 (w.heap.size + 1) o (by first | (simp; done) | assumption | (simp; omega))
  have hf3_1 := fun o => (bcell hb3).2 (w.heap.size + 1) o (by first | (simp; done) | assumption | (simp; omega))
  have zz3_1 : w.heap.size + 1 < w3.heap.size := zz hb3 (by first | (simp; done) | assumption | (simp; omega))
  have hc3_2 := fun o => (bcell hb3).1 (w.heap.size + 1 + 1) o (by first | (simp; done) | assumption | (simp; omega))
  have hf3_2 := fun o => (bcell hb3).2 (w.heap.size + 1 + 1) o (by first | (simp; done) | assumption | (simp; omega))
  have zz3_2 : w.heap.size + 1 + 1 < w3.heap.size := zz hb3 (by first | (simp; done) | assumption | (simp; omega))
  go_wp2_with fail
  refine (HO.out _ _).mono ?_
  rintro e w4 ⟨rfl, hb4⟩
  have B4 : Below w.heap.size w w4 := (by repeat (with_reducible (first | exact Below.refl _ _ | assumption | apply ba | apply bd | apply bdr | (refine bs ?_ (by first | assumption | (simp; done) | (simp; omega))) | (refine bt ?_ (by assumption)))))
  have hc4_0 := fun o => (bcell hb4).1 (w.heap.size) o (by first | (simp; done) | assumption | (simp; omega))
  have hf4_0 := fun o => (bcell hb4).2 (w.heap.size) o (by first | (simp; done) | assumption | (simp; omega))
  have zz4_0 : w.heap.size < w4.heap.size := zz hb4 (by first | (simp; done) | assumption | (simp; omega))
  have hc4_1 := fun o => (bcell hb4).1 (w.heap.size + 1) o (by first | (simp; done) | assumption | (simp; omega))
  have hf4_1 := fun o => (bcell hb4).2 (w.heap.size + 1) o (by first | (simp; done) | assumption | (simp; omega))
  have zz4_1 : w.heap.size + 1 < w4.heap.size := zz hb4 (by first | (simp; done) | assumption | (simp; omega))
  have hc4_2 := fun o => (bcell hb4).1 (w.heap.size + 1 + 1) o (by first | (simp; done) | assumption | (simp; omega))
  have hf4_2 := fun o => (bcell hb4).2 (w.heap.size + 1 + 1) o (by first | (simp; done) | assumption | (simp; omega))
  have zz4_2 : w.heap.size + 1 + 1 < w4.heap.size := zz hb4 (by first | (simp; done) | assumption | (simp; omega))
  have hc4_3 := fun o => (bcell hb4).1 (w3.heap.size) o (by first | (simp; done) | assumption | (simp; omega))
  have hf4_3 := fun o => (bcell hb4).2 (w3.heap.size) o (by first | (simp; done) | assumption | (simp; omega))
  have zz4_3 : w3.heap.size < w4.heap.size := zz hb4 (by first | (simp; done) | assumption | (simp; omega))
  go_wp2
  exact bodyPost_ret (v := .agg #[.int .i64 (ri : Nat), .string rn, .int .i64 (ro : Nat)]) (by simp [results, Tryd.results21, go_sem, *] <;> first | rfl | omega) rfl ⟨rfl, (by repeat (with_reducible (first | exact Below.refl _ _ | assumption | apply ba | apply bd | apply bdr | (refine bs ?_ (by first | assumption | (simp; done) | (simp; omega))) | (refine bt ?_ (by assumption)))))⟩
theorem tw0_tff_ttt (xi xo yi yo ki ri ro : Nat) (xn yn kn rn : ByteArray) (HX : Hid (∀ w1 : World, Calls Tryd.prog 37 #[.agg #[.int .i64 (xi : Nat), .string xn, .int .i64 (xo : Nat)]] w1 fun e w' => e = .returned (.tuple #[.bool true, .bool false, .bool false]) ∧ Below w1.heap.size w1 w')) (HY : Hid (∀ w1 : World, Calls Tryd.prog 37 #[.agg #[.int .i64 (yi : Nat), .string yn, .int .i64 (yo : Nat)]] w1 fun e w' => e = .returned (.tuple #[.bool true, .bool true, .bool true]) ∧ Below w1.heap.size w1 w')) (HL : Hid (∀ w1 : World, Calls Tryd.prog 48 #[.agg #[.int .i64 (xi : Nat), .string xn, .int .i64 (xo : Nat)], .agg #[.int .i64 (yi : Nat), .string yn, .int .i64 (yo : Nat)]] w1 fun e w' => (∃ o : Nat, e = .returned (.agg #[.int .i64 (ki : Nat), .string kn, .int .i64 (o : Nat)])) ∧ Below w1.heap.size w1 w')) (HO : Hid (∀ (o : Nat) (w1 : World), Calls Tryd.prog 49 #[.agg #[.int .i64 (ki : Nat), .string kn, .int .i64 (o : Nat)], .bool true, .bool true, .bool true] w1 fun e w' => e = .returned (.agg #[.int .i64 (ri : Nat), .string rn, .int .i64 (ro : Nat)]) ∧ Below w1.heap.size w1 w')) (w : World) :
    Calls Tryd.prog 21 #[.int .i64 0, .agg #[.int .i64 (xi : Nat), .string xn, .int .i64 (xo : Nat)], .agg #[.int .i64 (yi : Nat), .string yn, .int .i64 (yo : Nat)]] w fun e w' => e = .returned (.agg #[.int .i64 (ri : Nat), .string rn, .int .i64 (ro : Nat)]) ∧ Below w.heap.size w w' := by
  go_enter Tryd.func21, Tryd.ntmps21
  go_wp2_with fail
  refine (HX.out _).mono ?_
  rintro e w1 ⟨rfl, hb1⟩
  have B1 : Below w.heap.size w w1 := (by repeat (with_reducible (first | exact Below.refl _ _ | assumption | apply ba | apply bd | apply bdr | (refine bs ?_ (by first | assumption | (simp; done) | (simp; omega))) | (refine bt ?_ (by assumption)))))
  have hc1_0 := fun o => (bcell hb1).1 (w.heap.size) o (by first | (simp; done) | assumption | (simp; omega))
  have hf1_0 := fun o => (bcell hb1).2 (w.heap.size) o (by first | (simp; done) | assumption | (simp; omega))
  have zz1_0 : w.heap.size < w1.heap.size := zz hb1 (by first | (simp; done) | assumption | (simp; omega))
  have hc1_1 := fun o => (bcell hb1).1 (w.heap.size + 1) o (by first | (simp; done) | assumption | (simp; omega))
  have hf1_1 := fun o => (bcell hb1).2 (w.heap.size + 1) o (by first | (simp; done) | assumption | (simp; omega))
  have zz1_1 : w.heap.size + 1 < w1.heap.size := zz hb1 (by first | (simp; done) | assumption | (simp; omega))
  have hc1_2 := fun o => (bcell hb1).1 (w.heap.size + 1 + 1) o (by first | (simp; done) | assumption | (simp; omega))
  have hf1_2 := fun o => (bcell hb1).2 (w.heap.size + 1 + 1) o (by first | (simp; done) | assumption | (simp; omega))
  have zz1_2 : w.heap.size + 1 + 1 < w1.heap.size := zz hb1 (by first | (simp; done) | assumption | (simp; omega))
  go_wp2_with fail
  refine (HY.out _).mono ?_
  rintro e w2 ⟨rfl, hb2⟩
  have B2 : Below w.heap.size w w2 := (by repeat (with_reducible (first | exact Below.refl _ _ | assumption | apply ba | apply bd | apply bdr | (refine bs ?_ (by first | assumption | (simp; done) | (simp; omega))) | (refine bt ?_ (by assumption)))))
  have hc2_0 := fun o => (bcell hb2).1 (w.heap.size) o (by first | (simp; done) | assumption | (simp; omega))
  have hf2_0 := fun o => (bcell hb2).2 (w.heap.size) o (by first | (simp; done) | assumption | (simp; omega))
  have zz2_0 : w.heap.size < w2.heap.size := zz hb2 (by first | (simp; done) | assumption | (simp; omega))
  have hc2_1 := fun o => (bcell hb2).1 (w.heap.size + 1) o (by first | (simp; done) | assumption | (simp; omega))
  have hf2_1 := fun o => (bcell hb2).2 (w.heap.size + 1) o (by first | (simp; done) | assumption | (simp; omega))
  have zz2_1 : w.heap.size + 1 < w2.heap.size := zz hb2 (by first | (simp; done) | assumption | (simp; omega))
  have hc2_2 := fun o => (bcell hb2).1 (w.heap.size + 1 + 1) o (by first | (simp; done) | assumption | (simp; omega))
  have hf2_2 := fun o => (bcell hb2).2 (w.heap.size + 1 + 1) o (by first | (simp; done) | assumption | (simp; omega))
  have zz2_2 : w.heap.size + 1 + 1 < w2.heap.size := zz hb2 (by first | (simp; done) | assumption | (simp; omega))
  go_wp2_with fail
  refine (HL.out _).mono ?_
  rintro e w3 ⟨⟨ko, rfl⟩, hb3⟩
  have B3 : Below w.heap.size w w3 := (by repeat (with_reducible (first | exact Below.refl _ _ | assumption | apply ba | apply bd | apply bdr | (refine bs ?_ (by first | assumption | (simp; done) | (simp; omega))) | (refine bt ?_ (by assumption)))))
  have hc3_0 := fun o => (bcell hb3).1 (w.heap.size) o (by first | (simp; done) | assumption | (simp; omega))
  have hf3_0 := fun o => (bcell hb3).2 (w.heap.size) o (by first | (simp; done) | assumption | (simp; omega))
  have zz3_0 : w.heap.size < w3.heap.size := zz hb3 (by first | (simp; done) | assumption | (simp; omega))
  have hc3_1 := fun o => (bcell hb3).1 (w.heap.size + 1) o (by first | (simp; done) | assumption | (simp; omega))
  have hf3_1 := fun o => (bcell hb3).2 (w.heap.size + 1) o (by first | (simp; done) | assumption | (simp; omega))
  have zz3_1 : w.heap.size + 1 < w3.heap.size := zz hb3 (by first | (simp; done) | assumption | (simp; omega))
  have hc3_2 := fun o => (bcell hb3).1 (w.heap.size + 1 + 1) o (by first | (simp; done) | assumption | (simp; omega))
  have hf3_2 := fun o => (bcell hb3).2 (w.heap.size + 1 + 1) o (by first | (simp; done) | assumption | (simp; omega))
  have zz3_2 : w.heap.size + 1 + 1 < w3.heap.size := zz hb3 (by first | (simp; done) | assumption | (simp; omega))
  go_wp2_with fail
  refine (HO.out _ _).mono ?_
  rintro e w4 ⟨rfl, hb4⟩
  have B4 : Below w.heap.size w w4 := (by repeat (with_reducible (first | exact Below.refl _ _ | assumption | apply ba | apply bd | apply bdr | (refine bs ?_ (by first | assumption | (simp; done) | (simp; omega))) | (refine bt ?_ (by assumption)))))
  have hc4_0 := fun o => (bcell hb4).1 (w.heap.size) o (by first | (simp; done) | assumption | (simp; omega))
  have hf4_0 := fun o => (bcell hb4).2 (w.heap.size) o (by first | (simp; done) | assumption | (simp; omega))
  have zz4_0 : w.heap.size < w4.heap.size := zz hb4 (by first | (simp; done) | assumption | (simp; omega))
  have hc4_1 := fun o => (bcell hb4).1 (w.heap.size + 1) o (by first | (simp; done) | assumption | (simp; omega))
  have hf4_1 := fun o => (bcell hb4).2 (w.heap.size + 1) o (by first | (simp; done) | assumption | (simp; omega))
  have zz4_1 : w.heap.size + 1 < w4.heap.size := zz hb4 (by first | (simp; done) | assumption | (simp; omega))
  have hc4_2 := fun o => (bcell hb4).1 (w.heap.size + 1 + 1) o (by first | (simp; done) | assumption | (simp; omega))
  have hf4_2 := fun o => (bcell hb4).2 (w.heap.size + 1 + 1) o (by first | (simp; done) | assumption | (simp; omega))
  have zz4_2 : w.heap.size + 1 + 1 < w4.heap.size := zz hb4 (by first | (simp; done) | assumption | (simp; omega))
  have hc4_3 := fun o => (bcell hb4).1 (w3.heap.size) o (by first | (simp; done) | assumption | (simp; omega))
  have hf4_3 := fun o => (bcell hb4).2 (w3.heap.size) o (by first | (simp; done) | assumption | (simp; omega))
  have zz4_3 : w3.heap.size < w4.heap.size := zz hb4 (by first | (simp; done) | assumption | (simp; omega))
  go_wp2
  exact bodyPost_ret (v := .agg #[.int .i64 (ri : Nat), .string rn, .int .i64 (ro : Nat)]) (by simp [results, Tryd.results21, go_sem, *] <;> first | rfl | omega) rfl ⟨rfl, (by repeat (with_reducible (first | exact Below.refl _ _ | assumption | apply ba | apply bd | apply bdr | (refine bs ?_ (by first | assumption | (simp; done) | (simp; omega))) | (refine bt ?_ (by assumption)))))⟩
theorem tw0_ftf_tff (xi xo yi yo ki ri ro : Nat) (xn yn kn rn : ByteArray) (HX : Hid (∀ w1 : World, Calls Tryd.prog 37 #[.agg #[.int .i64 (xi : Nat), .string xn, .int .i64 (xo : Nat)]] w1 fun e w' => e = .returned (.tuple #[.bool false, .bool true, .bool false]) ∧ Below w1.heap.size w1 w')) (HY : Hid (∀ w1 : World, Calls Tryd.prog 37 #[.agg #[.int .i64 (yi : Nat), .string yn, .int .i64 (yo : Nat)]] w1 fun e w' => e = .returned (.tuple #[.bool true, .bool false, .bool false]) ∧ Below w1.heap.size w1 w')) (HL : Hid (∀ w1 : World, Calls Tryd.prog 48 #[.agg #[.int .i64 (xi : Nat), .string xn, .int .i64 (xo : Nat)], .agg #[.int .i64 (yi : Nat), .string yn, .int .i64 (yo : Nat)]] w1 fun e w' => (∃ o : Nat, e = .returned (.agg #[.int .i64 (ki : Nat), .string kn, .int .i64 (o : Nat)])) ∧ Below w1.heap.size w1 w')) (HO : Hid (∀ (o : Nat) (w1 : World), Calls Tryd.prog 49 #[.agg #[.int .i64 (ki : Nat), .string kn, .int .i64 (o : Nat)], .bool true, .bool true, .bool false] w1 fun e w' => e = .returned (.agg #[.int .i64 (ri : Nat), .string rn, .int .i64 (ro : Nat)]) ∧ Below w1.heap.size w1 w')) (w : World) :
    Calls Tryd.prog 21 #[.int .i64 0, .agg #[.int .i64 (xi : Nat), .string xn, .int .i64 (xo : Nat)], .agg #[.int .i64 (yi : Nat), .string yn, .int .i64 (yo : Nat)]] w fun e w' => e = .returned (.agg #[.int .i64 (ri : Nat), .string rn, .int .i64 (ro : Nat)]) ∧ Below w.heap.size w w' := by
  go_enter Tryd.func21, Tryd.ntmps21
  go_wp2_with fail
  refine (HX.out _).mono ?_
  rintro e w1 ⟨rfl, hb1⟩
  have B1 : Below w.heap.size w w1 := (by repeat (with_reducible (first | exact Below.refl _ _ | assumption | apply ba | apply bd | apply bdr | (refine bs ?_ (by first | assumption | (simp; done) | (simp; omega))) | (refine bt ?_ (by assumption)))))
  have hc1_0 := fun o => (bcell hb1).1 (w.heap.size) o (by first | (simp; done) | assumption | (simp; omega))
  have hf1_0 := fun o => (bcell hb1).2 (w.heap.size) o (by first | (simp; done) | assumption | (simp; omega))
  have zz1_0 : w.heap.size < w1.heap.size := zz hb1 (by first | (simp; done) | assumption | (simp; omega))
  have hc1_1 := fun o => (bcell hb1).1 (w.heap.size + 1) o (by first | (simp; done) | assumption | (simp; omega))
  have hf1_1 := fun o => (bcell hb1).2 (w.heap.size + 1) o (by first | (simp; done) | assumption | (simp; omega))
  have zz1_1 : w.heap.size + 1 < w1.heap.size := zz hb1 (by first | (simp; done) | assumption | (simp; omega))
  have hc1_2 := fun o => (bcell hb1).1 (w.heap.size + 1 + 1) o (by first | (simp; done) | assumption | (simp; omega))
  have hf1_2 := fun o => (bcell hb1).2 (w.heap.size + 1 + 1) o (by first | (simp; done) | assumption | (simp; omega))
  have zz1_2 : w.heap.size + 1 + 1 < w1.heap.size := zz hb1 (by first | (simp; done) | assumption | (simp; omega))
  go_wp2_with fail
  refine (HY.out _).mono ?_
  rintro e w2 ⟨rfl, hb2⟩
  have B2 : Below w.heap.size w w2 := (by repeat (with_reducible (first | exact Below.refl _ _ | assumption | apply ba | apply bd | apply bdr | (refine bs ?_ (by first | assumption | (simp; done) | (simp; omega))) | (refine bt ?_ (by assumption)))))
  have hc2_0 := fun o => (bcell hb2).1 (w.heap.size) o (by first | (simp; done) | assumption | (simp; omega))
  have hf2_0 := fun o => (bcell hb2).2 (w.heap.size) o (by first | (simp; done) | assumption | (simp; omega))
  have zz2_0 : w.heap.size < w2.heap.size := zz hb2 (by first | (simp; done) | assumption | (simp; omega))
  have hc2_1 := fun o => (bcell hb2).1 (w.heap.size + 1) o (by first | (simp; done) | assumption | (simp; omega))
  have hf2_1 := fun o => (bcell hb2).2 (w.heap.size + 1) o (by first | (simp; done) | assumption | (simp; omega))
  have zz2_1 : w.heap.size + 1 < w2.heap.size := zz hb2 (by first | (simp; done) | assumption | (simp; omega))
  have hc2_2 := fun o => (bcell hb2).1 (w.heap.size + 1 + 1) o (by first | (simp; done) | assumption | (simp; omega))
  have hf2_2 := fun o => (bcell hb2).2 (w.heap.size + 1 + 1) o (by first | (simp; done) | assumption | (simp; omega))
  have zz2_2 : w.heap.size + 1 + 1 < w2.heap.size := zz hb2 (by first | (simp; done) | assumption | (simp; omega))
  go_wp2_with fail
  refine (HL.out _).mono ?_
  rintro e w3 ⟨⟨ko, rfl⟩, hb3⟩
  have B3 : Below w.heap.size w w3 := (by repeat (with_reducible (first | exact Below.refl _ _ | assumption | apply ba | apply bd | apply bdr | (refine bs ?_ (by first | assumption | (simp; done) | (simp; omega))) | (refine bt ?_ (by assumption)))))
  have hc3_0 := fun o => (bcell hb3).1 (w.heap.size) o (by first | (simp; done) | assumption | (simp; omega))
  have hf3_0 := fun o => (bcell hb3).2 (w.heap.size) o (by first | (simp; done) | assumption | (simp; omega))
  have zz3_0 : w.heap.size < w3.heap.size := zz hb3 (by first | (simp; done) | assumption | (simp; omega))
  have hc3_1 := fun o => (bcell hb3).1 (w.heap.size + 1) o (by first | (simp; done) | assumption | (simp; omega))
  have hf3_1 := fun o => (bcell hb3).2 (w.heap.size + 1) o (by first | (simp; done) | assumption | (simp; omega))
  have zz3_1 : w.heap.size + 1 < w3.heap.size := zz hb3 (by first | (simp; done) | assumption | (simp; omega))
  have hc3_2 := fun o => (bcell hb3).1 (w.heap.size + 1 + 1) o (by first | (simp; done) | assumption | (simp; omega))
  have hf3_2 := fun o => (bcell hb3).2 (w.heap.size + 1 + 1) o (by first | (simp; done) | assumption | (simp; omega))
  have zz3_2 : w.heap.size + 1 + 1 < w3.heap.size := zz hb3 (by first | (simp; done) | assumption | (simp; omega))
  go_wp2_with fail
  refine (HO.out _ _).mono ?_
  rintro e w4 ⟨rfl, hb4⟩
  have B4 : Below w.heap.size w w4 := (by repeat (with_reducible (first | exact Below.refl _ _ | assumption | apply ba | apply bd | apply bdr | (refine bs ?_ (by first | assumption | (simp; done) | (simp; omega))) | (refine bt ?_ (by assumption)))))
  have hc4_0 := fun o => (bcell hb4).1 (w.heap.size) o (by first | (simp; done) | assumption | (simp; omega))
  have hf4_0 := fun o => (bcell hb4).2 (w.heap.size) o (by first | (simp; done) | assumption | (simp; omega))
  have zz4_0 : w.heap.size < w4.heap.size := zz hb4 (by first | (simp; done) | assumption | (simp; omega))
  have hc4_1 := fun o => (bcell hb4).1 (w.heap.size + 1) o (by first | (simp; done) | assumption | (simp; omega))
  have hf4_1 := fun o => (bcell hb4).2 (w.heap.size + 1) o (by first | (simp; done) | assumption | (simp; omega))
  have zz4_1 : w.heap.size + 1 < w4.heap.size := zz hb4 (by first | (simp; done) | assumption | (simp; omega))
  have hc4_2 := fun o => (bcell hb4).1 (w.heap.size + 1 + 1) o (by first | (simp; done) | assumption | (simp; omega))
  have hf4_2 := fun o => (bcell hb4).2 (w.heap.size + 1 + 1) o (by first | (simp; done) | assumption | (simp; omega))
  have zz4_2 : w.heap.size + 1 + 1 < w4.heap.size := zz hb4 (by first | (simp; done) | assumption | (simp; omega))
  have hc4_3 := fun o => (bcell hb4).1 (w3.heap.size) o (by first | (simp; done) | assumption | (simp; omega))
  have hf4_3 := fun o => (bcell hb4).2 (w3.heap.size) o (by first | (simp; done) | assumption | (simp; omega))
  have zz4_3 : w3.heap.size < w4.heap.size := zz hb4 (by first | (simp; done) | assumption | (simp; omega))
  go_wp2
  exact bodyPost_ret (v := .agg #[.int .i64 (ri : Nat), .string rn, .int .i64 (ro : Nat)]) (by simp [results, Tryd.results21, go_sem, *] <;> first | rfl | omega) rfl ⟨rfl, (by repeat (with_reducible (first | exact Below.refl _ _ | assumption | apply ba | apply bd | apply bdr | (refine bs ?_ (by first | assumption | (simp; done) | (simp; omega))) | (refine bt ?_ (by assumption)))))⟩
theorem tw0_ftf_ftf (xi xo yi yo ki ri ro : Nat) (xn yn kn rn : ByteArray) (HX : Hid (∀ w1 : World, Calls Tryd.prog 37 #[.agg #[.int .i64 (xi : Nat), .string xn, .int .i64 (xo : Nat)]] w1 fun e w' => e = .returned (.tuple #[.bool false, .bool true, .bool false]) ∧ Below w1.heap.size w1 w')) (HY : Hid (∀ w1 : World, Calls Tryd.prog 37 #[.agg #[.int .i64 (yi : Nat), .string yn, .int .i64 (yo : Nat)]] w1 fun e w' => e = .returned (.tuple #[.bool false, .bool true, .bool false]) ∧ Below w1.heap.size w1 w')) (HL : Hid (∀ w1 : World, Calls Tryd.prog 48 #[.agg #[.int .i64 (xi : Nat), .string xn, .int .i64 (xo : Nat)], .agg #[.int .i64 (yi : Nat), .string yn, .int .i64 (yo : Nat)]] w1 fun e w' => (∃ o : Nat, e = .returned (.agg #[.int .i64 (ki : Nat), .string kn, .int .i64 (o : Nat)])) ∧ Below w1.heap.size w1 w')) (HO : Hid (∀ (o : Nat) (w1 : World), Calls Tryd.prog 49 #[.agg #[.int .i64 (ki : Nat), .string kn, .int .i64 (o : Nat)], .bool false, .bool true, .bool false] w1 fun e w' => e = .returned (.agg #[.int .i64 (ri : Nat), .string rn, .int .i64 (ro : Nat)]) ∧ Below w1.heap.size w1 w')) (w : World) :
    Calls Tryd.prog 21 #[.int .i64 0, .agg #[.int .i64 (xi : Nat), .string xn, .int .i64 (xo : Nat)], .agg #[.int .i64 (yi : Nat), .string yn, .int .i64 (yo : Nat)]] w fun e w' => e = .returned (.agg #[.int .i64 (ri : Nat), .string rn, .int .i64 (ro : Nat)]) ∧ Below w.heap.size w w' := by
  go_enter Tryd.func21, Tryd.ntmps21
  go_wp2_with fail
  refine (HX.out _).mono ?_
  rintro e w1 ⟨rfl, hb1⟩
  have B1 : Below w.heap.size w w1 := (by repeat (with_reducible (first | exact Below.refl _ _ | assumption | apply ba | apply bd | apply bdr | (refine bs ?_ (by first | assumption | (simp; done) | (simp; omega))) | (refine bt ?_ (by assumption)))))
  have hc1_0 := fun o => (bcell hb1).1 (w.heap.size) o (by first | (simp; done) | assumption | (simp; omega))
  have hf1_0 := fun o => (bcell hb1).2 (w.heap.size) o (by first | (simp; done) | assumption | (simp; omega))
  have zz1_0 : w.heap.size < w1.heap.size := zz hb1 (by first | (simp; done) | assumption | (simp; omega))
  have hc1_1 := fun o => (bcell hb1).1 (w.heap.size + 1) o (by first | (simp; done) | assumption | (simp; omega))
  have hf1_1 := fun o => (bcell hb1).2 (w.heap.size + 1) o (by first | (simp; done) | assumption | (simp; omega))
  have zz1_1 : w.heap.size + 1 < w1.heap.size := zz hb1 (by first | (simp; done) | assumption | (simp; omega))
  have hc1_2 := fun o => (bcell hb1).1 (w.heap.size + 1 + 1) o (by first | (simp; done) | assumption | (simp; omega))
  have hf1_2 := fun o => (bcell hb1).2 (w.heap.size + 1 + 1) o (by first | (simp; done) | assumption | (simp; omega))
  have zz1_2 : w.heap.size + 1 + 1 < w1.heap.size := zz hb1 (by first | (simp; done) | assumption | (simp; omega))
  go_wp2_with fail
  refine (HY.out _).mono ?_
  rintro e w2 ⟨rfl, hb2⟩
  have B2 : Below w.heap.size w w2 := (by repeat (with_reducible (first | exact Below.refl _ _ | assumption | apply ba | apply bd | apply bdr | (refine bs ?_ (by first | assumption | (simp; done) | (simp; omega))) | (refine bt ?_ (by assumption)))))
  have hc2_0 := fun o => (bcell hb2).1 (w.heap.size) o (by first | (simp; done) | assumption | (simp; omega))
  have hf2_0 := fun o => (bcell hb2).2 (w.heap.size) o (by first | (simp; done) | assumption | (simp; omega))
  have zz2_0 : w.heap.size < w2.heap.size := zz hb2 (by first | (simp; done) | assumption | (simp; omega))
  have hc2_1 := fun o => (bcell hb2).1 (w.heap.size + 1) o (by first | (simp; done) | assumption | (simp; omega))
  have hf2_1 := fun o => (bcell hb2).2 (w.heap.size + 1) o (by first | (simp; done) | assumption | (simp; omega))
  have zz2_1 : w.heap.size + 1 < w2.heap.size := zz hb2 (by first | (simp; done) | assumption | (simp; omega))
  have hc2_2 := fun o => (bcell hb2).1 (w.heap.size + 1 + 1) o (by first | (simp; done) | assumption | (simp; omega))
  have hf2_2 := fun o => (bcell hb2).2 (w.heap.size + 1 + 1) o (by first | (simp; done) | assumption | (simp; omega))
  have zz2_2 : w.heap.size + 1 + 1 < w2.heap.size := zz hb2 (by first | (simp; done) | assumption | (simp; omega))
  go_wp2_with fail
  refine (HL.out _).mono ?_
  rintro e w3 ⟨⟨ko, rfl⟩, hb3⟩
  have B3 : Below w.heap.size w w3 := (by repeat (with_reducible (first | exact Below.refl _ _ | assumption | apply ba | apply bd | apply bdr | (refine bs ?_ (by first | assumption | (simp; done) | (simp; omega))) | (refine bt ?_ (by assumption)))))
  have hc3_0 := fun o => (bcell hb3).1 (w.heap.size) o (by first | (simp; done) | assumption | (simp; omega))
  have hf3_0 := fun o => (bcell hb3).2 (w.heap.size) o (by first | (simp; done) | assumption | (simp; omega))
  have zz3_0 : w.heap.size < w3.heap.size := zz hb3 (by first | (simp; done) | assumption | (simp; omega))
  have hc3_1 := fun o => (bcell hb3).1 (w.heap.size + 1) o (by first | (simp; done) | assumption | (simp; omega))
  have hf3_1 := fun o => (bcell hb3).2 (w.heap.size + 1) o (by first | (simp; done) | assumption | (simp; omega))
  have zz3_1 : w.heap.size + 1 < w3.heap.size := zz hb3 (by first | (simp; done) | assumption | (simp; omega))
  have hc3_2 := fun o => (bcell hb3).1 (w.heap.size + 1 + 1) o (by first | (simp; done) | assumption | (simp; omega))
  have hf3_2 := fun o => (bcell hb3).2 (w.heap.size + 1 + 1) o (by first | (simp; done) | assumption | (simp; omega))
  have zz3_2 : w.heap.size + 1 + 1 < w3.heap.size := zz hb3 (by first | (simp; done) | assumption | (simp; omega))
  go_wp2_with fail
  refine (HO.out _ _).mono ?_
  rintro e w4 ⟨rfl, hb4⟩
  have B4 : Below w.heap.size w w4 := (by repeat (with_reducible (first | exact Below.refl _ _ | assumption | apply ba | apply bd | apply bdr | (refine bs ?_ (by first | assumption | (simp; done) | (simp; omega))) | (refine bt ?_ (by assumption)))))
  have hc4_0 := fun o => (bcell hb4).1 (w.heap.size) o (by first | (simp; done) | assumption | (simp; omega))
  have hf4_0 := fun o => (bcell hb4).2 (w.heap.size) o (by first | (simp; done) | assumption | (simp; omega))
  have zz4_0 : w.heap.size < w4.heap.size := zz hb4 (by first | (simp; done) | assumption | (simp; omega))
  have hc4_1 := fun o => (bcell hb4).1 (w.heap.size + 1) o (by first | (simp; done) | assumption | (simp; omega))
  have hf4_1 := fun o => (bcell hb4).2 (w.heap.size + 1) o (by first | (simp; done) | assumption | (simp; omega))
  have zz4_1 : w.heap.size + 1 < w4.heap.size := zz hb4 (by first | (simp; done) | assumption | (simp; omega))
  have hc4_2 := fun o => (bcell hb4).1 (w.heap.size + 1 + 1) o (by first | (simp; done) | assumption | (simp; omega))
  have hf4_2 := fun o => (bcell hb4).2 (w.heap.size + 1 + 1) o (by first | (simp; done) | assumption | (simp; omega))
  have zz4_2 : w.heap.size + 1 + 1 < w4.heap.size := zz hb4 (by first | (simp; done) | assumption | (simp; omega))
  have hc4_3 := fun o => (bcell hb4).1 (w3.heap.size) o (by first | (simp; done) | assumption | (simp; omega))
  have hf4_3 := fun o => (bcell hb4).2 (w3.heap.size) o (by first | (simp; done) | assumption | (simp; omega))
  have zz4_3 : w3.heap.size < w4.heap.size := zz hb4 (by first | (simp; done) | assumption | (simp; omega))
  go_wp2
  exact bodyPost_ret (v := .agg #[.int .i64 (ri : Nat), .string rn, .int .i64 (ro : Nat)]) (by simp [results, Tryd.results21, go_sem, *] <;> first | rfl | omega) rfl ⟨rfl, (by repeat (with_reducible (first | exact Below.refl _ _ | assumption | apply ba | apply bd | apply bdr | (refine bs ?_ (by first | assumption | (simp; done) | (simp; omega))) | (refine bt ?_ (by assumption)))))⟩
theorem tw0_ftf_ttf (xi xo yi yo ki ri ro : Nat) (xn yn kn rn : ByteArray) (HX : Hid (∀ w1 : World, Calls Tryd.prog 37 #[.agg #[.int .i64 (xi : Nat), .string xn, .int .i64 (xo : Nat)]] w1 fun e w' => e = .returned (.tuple #[.bool false, .bool true, .bool false]) ∧ Below w1.heap.size w1 w')) (HY : Hid (∀ w1 : World, Calls Tryd.prog 37 #[.agg #[.int .i64 (yi : Nat), .string yn, .int .i64 (yo : Nat)]] w1 fun e w' => e = .returned (.tuple #[.bool true, .bool true, .bool false]) ∧ Below w1.heap.size w1 w')) (HL : Hid (∀ w1 : World, Calls Tryd.prog 48 #[.agg #[.int .i64 (xi : Nat), .string xn, .int .i64 (xo : Nat)], .agg #[.int .i64 (yi : Nat), .string yn, .int .i64 (yo : Nat)]] w1 fun e w' => (∃ o : Nat, e = .returned (.agg #[.int .i64 (ki : Nat), .string kn, .int .i64 (o : Nat)])) ∧ Below w1.heap.size w1 w')) (HO : Hid (∀ (o : Nat) (w1 : World), Calls Tryd.prog 49 #[.agg #[.int .i64 (ki : Nat), .string kn, .int .i64 (o : Nat)], .bool true, .bool true, .bool false] w1 fun e w' => e = .returned (.agg #[.int .i64 (ri : Nat), .string rn, .int .i64 (ro : Nat)]) ∧ Below w1.heap.size w1 w')) (w : World) :
    Calls Tryd.prog 21 #[.int .i64 0, .agg #[.int .i64 (xi : Nat), .string xn, .int .i64 (xo : Nat)], .agg #[.int .i64 (yi : Nat), .string yn, .int .i64 (yo : Nat)]] w fun e w' => e = .returned (.agg #[.int .i64 (ri : Nat), .string rn, .int .i64 (ro : Nat)]) ∧ Below w.heap.size w w' := by
  go_enter Tryd.func21, Tryd.ntmps21
  go_wp2_with fail
  refine (HX.out _).mono ?_
  rintro e w1 ⟨rfl, hb1⟩
  have B1 : Below w.heap.size w w1 := (by repeat (with_reducible (first | exact Below.refl _ _ | assumption | apply ba | apply bd | apply bdr | (refine bs ?_ (by first | assumption | (simp; done) | (simp; omega))) | (refine bt ?_ (by assumption)))))
  have hc1_0 := fun o => (bcell hb1).1 (w.heap.size) o (by first | (simp; done) | assumption | (simp; omega))
  have hf1_0 := fun o => (bcell hb1).2 (w.heap.size) o (by first | (simp; done) | assumption | (simp; omega))
  have zz1_0 : w.heap.size < w1.heap.size := zz hb1 (by first | (simp; done) | assumption | (simp; omega))
  have hc1_1 := fun o => (bcell hb1).1 (w.heap.size + 1) o (by first | (simp; done) | assumption | (simp; omega))
  have hf1_1 := fun o => (bcell hb1).2 (w.heap.size + 1) o (by first | (simp; done) | assumption | (simp; omega))
  have zz1_1 : w.heap.size + 1 < w1.heap.size := zz hb1 (by first | (simp; done) | assumption | (simp; omega))
  have hc1_2 := fun o => (bcell hb1).1 (w.heap.size + 1 + 1) o (by first | (simp; done) | assumption | (simp; omega))
  have hf1_2 := fun o => (bcell hb1).2 (w.heap.size + 1 + 1) o (by first | (simp; done) | assumption | (simp; omega))
  have zz1_2 : w.heap.size + 1 + 1 < w1.heap.size := zz hb1 (by first | (simp; done) | assumption | (simp; omega))
  go_wp2_with fail
  refine (HY.out _).mono ?_
  rintro e w2 ⟨rfl, hb2⟩
  have B2 : Below w.heap.size w w2 := (by repeat (with_reducible (first | exact Below.refl _ _ | assumption | apply ba | apply bd | apply bdr | (refine bs ?_ (by first | assumption | (simp; done) | (simp; omega))) | (refine bt ?_ (by assumption)))))
  have hc2_0 := fun o => (bcell hb2).1 (w.heap.size) o (by first | (simp; done) | assumption | (simp; omega))
  have hf2_0 := fun o => (bcell hb2).2 (w.heap.size) o (by first | (simp; done) | assumption | (simp; omega))
  have zz2_0 : w.heap.size < w2.heap.size := zz hb2 (by first | (simp; done) | assumption | (simp; omega))
  have hc2_1 := fun o => (bcell hb2).1 (w.heap.size + 1) o (by first | (simp; done) | assumption | (simp; omega))
  have hf2_1 := fun o => (bcell hb2).2 (w.heap.size + 1) o (by first | (simp; done) | assumption | (simp; omega))
  have zz2_1 : w.heap.size + 1 < w2.heap.size := zz hb2 (by first | (simp; done) | assumption | (simp; omega))
  have hc2_2 := fun o => (bcell hb2).1 (w.heap.size + 1 + 1) o (by first | (simp; done) | assumption | (simp; omega))
  have hf2_2 := fun o => (bcell hb2).2 (w.heap.size + 1 + 1) o (by first | (simp; done) | assumption | (simp; omega))
  have zz2_2 : w.heap.size + 1 + 1 < w2.heap.size := zz hb2 (by first | (simp; done) | assumption | (simp; omega))
  go_wp2_with fail
  refine (HL.out _).mono ?_
  rintro e w3 ⟨⟨ko, rfl⟩, hb3⟩
  have B3 : Below w.heap.size w w3 := (by repeat (with_reducible (first | exact Below.refl _ _ | assumption | apply ba | apply bd | apply bdr | (refine bs ?_ (by first | assumption | (simp; done) | (simp; omega))) | (refine bt ?_ (by assumption)))))
  have hc3_0 := fun o => (bcell hb3).1 (w.heap.size) o (by first | (simp; done) | assumption | (simp; omega))
  have hf3_0 := fun o => (bcell hb3).2 (w.heap.size) o (by first | (simp; done) | assumption | (simp; omega))
  have zz3_0 : w.heap.size < w3.heap.size := zz hb3 (by first | (simp; done) | assumption | (simp; omega))
  have hc3_1 := fun o => (bcell hb3).1 (w.heap.size + 1) o (by first | (simp; done) | assumption | (simp; omega))
  have hf3_1 := fun o => (bcell hb3).2 (w.heap.size + 1) o (by first | (simp; done) | assumption | (simp; omega))
  have zz3_1 : w.heap.size + 1 < w3.heap.size := zz hb3 (by first | (simp; done) | assumption | (simp; omega))
  have hc3_2 := fun o => (bcell hb3).1 (w.heap.size + 1 + 1) o (by first | (simp; done) | assumption | (simp; omega))
  have hf3_2 := fun o => (bcell hb3).2 (w.heap.size + 1 + 1) o (by first | (simp; done) | assumption | (simp; omega))
  have zz3_2 : w.heap.size + 1 + 1 < w3.heap.size := zz hb3 (by first | (simp; done) | assumption | (simp; omega))
  go_wp2_with fail
  refine (HO.out _ _).mono ?_
  rintro e w4 ⟨rfl, hb4⟩
  have B4 : Below w.heap.size w w4 := (by repeat (with_reducible (first | exact Below.refl _ _ | assumption | apply ba | apply bd | apply bdr | (refine bs ?_ (by first | assumption | (simp; done) | (simp; omega))) | (refine bt ?_ (by assumption)))))
  have hc4_0 := fun o => (bcell hb4).1 (w.heap.size) o (by first | (simp; done) | assumption | (simp; omega))
  have hf4_0 := fun o => (bcell hb4).2 (w.heap.size) o (by first | (simp; done) | assumption | (simp; omega))
  have zz4_0 : w.heap.size < w4.heap.size := zz hb4 (by first | (simp; done) | assumption | (simp; omega))
  have hc4_1 := fun o => (bcell hb4).1 (w.heap.size + 1) o (by first | (simp; done) | assumption | (simp; omega))
  have hf4_1 := fun o => (bcell hb4).2 (w.heap.size + 1) o (by first | (simp; done) | assumption | (simp; omega))
  have zz4_1 : w.heap.size + 1 < w4.heap.size := zz hb4 (by first | (simp; done) | assumption | (simp; omega))
  have hc4_2 := fun o => (bcell hb4).1 (w.heap.size + 1 + 1) o (by first | (simp; done) | assumption | (simp; omega))
  have hf4_2 := fun o => (bcell hb4).2 (w.heap.size + 1 + 1) o (by first | (simp; done) | assumption | (simp; omega))
  have zz4_2 : w.heap.size + 1 + 1 < w4.heap.size := zz hb4 (by first | (simp; done) | assumption | (simp; omega))
  have hc4_3 := fun o => (bcell hb4).1 (w3.heap.size) o (by first | (simp; done) | assumption | (simp; omega))
  have hf4_3 := fun o => (bcell hb4).2 (w3.heap.size) o (by first | (simp; done) | assumption | (simp; omega))
  have zz4_3 : w3.heap.size < w4.heap.size := zz hb4 (by first | (simp; done) | assumption | (simp; omega))
  go_wp2
  exact bodyPost_ret (v := .agg #[.int .i64 (ri : Nat), .string rn, .int .i64 (ro : Nat)]) (by simp [results, Tryd.results21, go_sem, *] <;> first | rfl | omega) rfl ⟨rfl, (by repeat (with_reducible (first | exact Below.refl _ _ | assumption | apply ba | apply bd | apply bdr | (refine bs ?_ (by first | assumption | (simp; done) | (simp; omega))) | (refine bt ?_ (by assumption)))))⟩
theorem tw0_ftf_ftt (xi xo yi yo ki ri ro : Nat) (xn yn kn rn : ByteArray) (HX : Hid (∀ w1 : World, Calls Tryd.prog 37 #[.agg #[.int .i64 (xi : Nat), .string xn, .int .i64 (xo : Nat)]] w1 fun e w' => e = .returned (.tuple #[.bool false, .bool true, .bool false]) ∧ Below w1.heap.size w1 w')) (HY : Hid (∀ w1 : World, Calls Tryd.prog 37 #[.agg #[.int .i64 (yi : Nat), .string yn, .int .i64 (yo : Nat)]] w1 fun e w' => e = .returned (.tuple #[.bool false, .bool true, .bool true]) ∧ Below w1.heap.size w1 w')) (HL : Hid (∀ w1 : World, Calls Tryd.prog 48 #[.agg #[.int .i64 (xi : Nat), .string xn, .int .i64 (xo : Nat)], .agg #[.int .i64 (yi : Nat), .string yn, .int .i64 (yo : Nat)]] w1 fun e w' => (∃ o : Nat, e = .returned (.agg #[.int .i64 (ki : Nat), .string kn, .int .i64 (o : Nat)])) ∧ Below w1.heap.size w1 w')) (HO : Hid (∀ (o : Nat) (w1 : World), Calls Tryd.prog 49 #[.agg #[.int .i64 (ki : Nat), .string kn, .int .i64 (o : Nat)], .bool false, .bool true, .bool true] w1 fun e w' => e = .returned (.agg #[.int .i64 (ri : Nat), .string rn, .int .i64 (ro : Nat)]) ∧ Below w1.heap.size w1 w')) (w : World) :
    Calls Tryd.prog 21 #[.int .i64 0, .agg #[.int .i64 (xi : Nat), .string xn, .int .i64 (xo : Nat)], .agg #[.int .i64 (yi : Nat), .string yn, .int .i64 (yo : Nat)]] w fun e w' => e = .returned (.agg #[.int .i64 (ri : Nat), .string rn, .int .i64 (ro : Nat)]) ∧ Below w.heap.size w w' := by
  go_enter Tryd.func21, Tryd.ntmps21
  go_wp2_with fail
  refine (HX.out _).mono ?_
  rintro e w1 ⟨rfl, hb1⟩
  have B1 : Below w.heap.size w w1 := (by repeat (with_reducible (first | exact Below.refl _ _ | assumption | apply ba | apply bd | apply bdr | (refine bs ?_ (by first | assumption | (simp; done) | (simp; omega))) | (refine bt ?_ (by assumption)))))
  have hc1_0 := fun o => (bcell hb1).1 (w.heap.size) o (by first | (simp; done) | assumption | (simp; omega))
  have hf1_0 := fun o => (bcell hb1).2 (w.heap.size) o (by first | (simp; done) | assumption | (simp; omega))
  have zz1_0 : w.heap.size < w1.heap.size := zz hb1 (by first | (simp; done) | assumption | (simp; omega))
  have hc1_1 := fun o => (bcell hb1).1 (w.heap.size + 1) o (by first | (simp; done) | assumption | (simp; omega))
  have hf1_1 := fun o => (bcell hb1).2 (w.heap.size + 1) o (by first | (simp; done) | assumption | (simp; omega))
  have zz1_1 : w.heap.size + 1 < w1.heap.size := zz hb1 (by first | (simp; done) | assumption | (simp; omega))
  have hc1_2 := fun o => (bcell hb1).1 (w.heap.size + 1 + 1) o (by first | (simp; done) | assumption | (simp; omega))
  have hf1_2 := fun o => (bcell hb1).2 (w.heap.size + 1 + 1) o (by first | (simp; done) | assumption | (simp; omega))
  have zz1_2 : w.heap.size + 1 + 1 < w1.heap.size := zz hb1 (by first | (simp; done) | assumption | (simp; omega))
  go_wp2_with fail
  refine (HY.out _).mono ?_
  rintro e w2 ⟨rfl, hb2⟩
  have B2 : Below w.heap.size w w2 := (by repeat (with_reducible (first | exact Below.refl _ _ | assumption | apply ba | apply bd | apply bdr | (refine bs ?_ (by first | assumption | (simp; done) | (simp; omega))) | (refine bt ?_ (by assumption)))))
  have hc2_0 := fun o => (bcell hb2).1 (w.heap.size) o (by first | (simp; done) | assumption | (simp; omega))
  have hf2_0 := fun o => (bcell hb2).2 (w.heap.size) o (by first | (simp; done) | assumption | (simp; omega))
  have zz2_0 : w.heap.size < w2.heap.size := zz hb2 (by first | (simp; done) | assumption | (simp; omega))
  have hc2_1 := fun o => (bcell hb2).1 (w.heap.size + 1) o (by first | (simp; done) | assumption | (simp; omega))
  have hf2_1 := fun o => (bcell hb2).2 (w.heap.size + 1) o (by first | (simp; done) | assumption | (simp; omega))
  have zz2_1 : w.heap.size + 1 < w2.heap.size := zz hb2 (by first | (simp; done) | assumption | (simp; omega))
  have hc2_2 := fun o => (bcell hb2).1 (w.heap.size + 1 + 1) o (by first | (simp; done) | assumption | (simp; omega))
  have hf2_2 := fun o => (bcell hb2).2 (w.heap.size + 1 + 1) o (by first | (simp; done) | assumption | (simp; omega))
  have zz2_2 : w.heap.size + 1 + 1 < w2.heap.size := zz hb2 (by first | (simp; done) | assumption | (simp; omega))
  go_wp2_with fail
  refine (HL.out _).mono ?_
  rintro e w3 ⟨⟨ko, rfl⟩, hb3⟩
  have B3 : Below w.heap.size w w3 := (by repeat (with_reducible (first | exact Below.refl _ _ | assumption | apply ba | apply bd | apply bdr | (refine bs ?_ (by first | assumption | (simp; done) | (simp; omega))) | (refine bt ?_ (by assumption)))))
  have hc3_0 := fun o => (bcell hb3).1 (w.heap.size) o (by first | (simp; done) | assumption | (simp; omega))
  have hf3_0 := fun o => (bcell hb3).2 (w.heap.size) o (by first | (simp; done) | assumption | (simp; omega))
  have zz3_0 : w.heap.size < w3.heap.size := zz hb3 (by first | (simp; done) | assumption | (simp; omega))
  have hc3_1 := fun o => (bcell hb3).1 (w.heap.size + 1) o (by first | (simp; done) | assumption | (simp; omega))
  have hf3_1 := fun o => (bcell hb3).2 (w.heap.size + 1) o (by first | (simp; done) | assumption | (simp; omega))
  have zz3_1 : w.heap.size + 1 < w3.heap.size := zz hb3 (by first | (simp; done) | assumption | (simp; omega))
  have hc3_2 := fun o => (bcell hb3).1 (w.heap.size + 1 + 1) o (by first | (simp; done) | assumption | (simp; omega))
  have hf3_2 := fun o => (bcell hb3).2 (w.heap.size + 1 + 1) o (by first | (simp; done) | assumption | (simp; omega))
  have zz3_2 : w.heap.size + 1 + 1 < w3.heap.size := zz hb3 (by first | (simp; done) | assumption | (simp; omega))
  go_wp2_with fail
  refine (HO.out _ _).mono ?_
  rintro e w4 ⟨rfl, hb4⟩
  have B4 : Below w.heap.size w w4 := (by repeat (with_reducible (first | exact Below.refl _ _ | assumption | apply ba | apply bd | apply bdr | (refine bs ?_ (by first | assumption | (simp; done) | (simp; omega))) | (refine bt ?_ (by assumption)))))
  have hc4_0 := fun o => (bcell hb4).1 (w.heap.size) o (by first | (simp; done) | assumption | (simp; omega))
  have hf4_0 := fun o => (bcell hb4).2 (w.heap.size) o (by first | (simp; done) | assumption | (simp; omega))
  have zz4_0 : w.heap.size < w4.heap.size := zz hb4 (by first | (simp; done) | assumption | (simp; omega))
  have hc4_1 := fun o => (bcell hb4).1 (w.heap.size + 1) o (by first | (simp; done) | assumption | (simp; omega))
  have hf4_1 := fun o => (bcell hb4).2 (w.heap.size + 1) o (by first | (simp; done) | assumption | (simp; omega))
  have zz4_1 : w.heap.size + 1 < w4.heap.size := zz hb4 (by first | (simp; done) | assumption | (simp; omega))
  have hc4_2 := fun o => (bcell hb4).1 (w.heap.size + 1 + 1) o (by first | (simp; done) | assumption | (simp; omega))
  have hf4_2 := fun o => (bcell hb4).2 (w.heap.size + 1 + 1) o (by first | (simp; done) | assumption | (simp; omega))
  have zz4_2 : w.heap.size + 1 + 1 < w4.heap.size := zz hb4 (by first | (simp; done) | assumption | (simp; omega))
  have hc4_3 := fun o => (bcell hb4).1 (w3.heap.size) o (by first | (simp; done) | assumption | (simp; omega))
  have hf4_3 := fun o => (bcell hb4).2 (w3.heap.size) o (by first | (simp; done) | assumption | (simp; omega))
  have zz4_3 : w3.heap.size < w4.heap.size := zz hb4 (by first | (simp; done) | assumption | (simp; omega))
  go_wp2
  exact bodyPost_ret (v := .agg #[.int .i64 (ri : Nat), .string rn, .int .i64 (ro : Nat)]) (by simp [results, Tryd.results21, go_sem, *] <;> first | rfl | omega) rfl ⟨rfl, (by repeat (with_reducible (first | exact Below.refl _ _ | assumption | apply ba | apply bd | apply bdr | (refine bs ?_ (by first | assumption | (simp; done) | (simp; omega))) | (refine bt ?_ (by assumption)))))⟩
theorem tw0_ftf_ttt (xi xo yi yo ki ri ro : Nat) (xn yn kn rn : ByteArray) (HX : Hid (∀ w1 : World, Calls Tryd.prog 37 #[.agg #[.int .i64 (xi : Nat), .string xn, .int .i64 (xo : Nat)]] w1 fun e w' => e = .returned (.tuple #[.bool false, .bool true, .bool false]) ∧ Below w1.heap.size w1 w')) (HY : Hid (∀ w1 : World, Calls Tryd.prog 37 #[.agg #[.int .i64 (yi : Nat), .string yn, .int .i64 (yo : Nat)]] w1 fun e w' => e = .returned (.tuple #[.bool true, .bool true, .bool true]) ∧ Below w1.heap.size w1 w')) (HL : Hid (∀ w1 : World, Calls Tryd.prog 48 #[.agg #[.int .i64 (xi : Nat), .string xn, .int .i64 (xo : Nat)], .agg #[.int .i64 (yi : Nat), .string yn, .int .i64 (yo : Nat)]] w1 fun e w' => (∃ o : Nat, e = .returned (.agg #[.int .i64 (ki : Nat), .string kn, .int .i64 (o : Nat)])) ∧ Below w1.heap.size w1 w')) (HO : Hid (∀ (o : Nat) (w1 : World), Calls Tryd.prog 49 #[.agg #[.int .i64 (ki : Nat), .string kn, .int .i64 (o : Nat)], .bool true, .bool true, .bool true] w1 fun e w' => e = .returned (.agg #[.int .i64 (ri : Nat), .string rn, .int .i64 (ro : Nat)]) ∧ Below w1.heap.size w1 w')) (w : World) :
    Calls Tryd.prog 21 #[.int .i64 0, .agg #[.int .i64 (xi : Nat), .string xn, .int .i64 (xo : Nat)], .agg #[.int .i64 (yi : Nat), .string yn, .int .i64 (yo : Nat)]] w fun e w' => e = .returned (.agg #[.int .i64 (ri : Nat), .string rn, .int .i64 (ro : Nat)]) ∧ Below w.heap.size w w' := by
  go_enter Tryd.func21, Tryd.ntmps21
  go_wp2_with fail
  refine (HX.out _).mono ?_
  rintro e w1 ⟨rfl, hb1⟩
  have B1 : Below w.heap.size w w1 := (by repeat (with_reducible (first | exact Below.refl _ _ | assumption | apply ba | apply bd | apply bdr | (refine bs ?_ (by first | assumption | (simp; done) | (simp; omega))) | (refine bt ?_ (by assumption)))))
  have hc1_0 := fun o => (bcell hb1).1 (w.heap.size) o (by first | (simp; done) | assumption | (simp; omega))
  have hf1_0 := fun o => (bcell hb1).2 (w.heap.size) o (by first | (simp; done) | assumption | (simp; omega))
  have zz1_0 : w.heap.size < w1.heap.size := zz hb1 (by first | (simp; done) | assumption | (simp; omega))
  have hc1_1 := fun o => (bcell hb1).1 (w.heap.size + 1) o (by first | (simp; done) | assumption | (simp; omega))
  have hf1_1 := fun o => (bcell hb1).2 (w.heap.size + 1) o (by first | (simp; done) | assumption | (simp; omega))
  have zz1_1 : w.heap.size + 1 < w1.heap.size := zz hb1 (by first | (simp; done) | assumption | (simp; omega))
  have hc1_2 := fun o => (bcell hb1).1 (w.heap.size + 1 + 1) o (by first | (simp; done) | assumption | (simp; omega))
  have hf1_2 := fun o => (bcell hb1).2 (w.heap.size + 1 + 1) o (by first | (simp; done) | assumption | (simp; omega))
  have zz1_2 : w.heap.size + 1 + 1 < w1.heap.size := zz hb1 (by first | (simp; done) | assumption | (simp; omega))
  go_wp2_with fail
  refine (HY.out _).mono ?_
  rintro e w2 ⟨rfl, hb2⟩
  have B2 : Below w.heap.size w w2 := (by repeat (with_reducible (first | exact Below.refl _ _ | assumption | apply ba | apply bd | apply bdr | (refine bs ?_ (by first | assumption | (simp; done) | (simp; omega))) | (refine bt ?_ (by assumption)))))
  have hc2_0 := fun o => (bcell hb2).1 (w.heap.size) o (by first | (simp; done) | assumption | (simp; omega))
  have hf2_0 := fun o => (bcell hb2).2 (w.heap.size) o (by first | (simp; done) | assumption | (simp; omega))
  have zz2_0 : w.heap.size < w2.heap.size := zz hb2 (by first | (simp; done) | assumption | (simp; omega))
  have hc2_1 := fun o => (bcell hb2).1 (w.heap.size + 1) o (by first | (simp; done) | assumption | (simp; omega))
  have hf2_1 := fun o => (bcell hb2).2 (w.heap.size + 1) o (by first | (simp; done) | assumption | (simp; omega))
  have zz2_1 : w.heap.size + 1 < w2.heap.size := zz hb2 (by first | (simp; done) | assumption | (simp; omega))
  have hc2_2 := fun o => (bcell hb2).1 (w.heap.size + 1 + 1) o (by first | (simp; done) | assumption | (simp; omega))
  have hf2_2 := fun o => (bcell hb2).2 (w.heap.size + 1 + 1) o (by first | (simp; done) | assumption | (simp; omega))
  have zz2_2 : w.heap.size + 1 + 1 < w2.heap.size := zz hb2 (by first | (simp; done) | assumption | (simp; omega))
  go_wp2_with fail
  refine (HL.out _).mono ?_
  rintro e w3 ⟨⟨ko, rfl⟩, hb3⟩
  have B3 : Below w.heap.size w w3 := (by repeat (with_reducible (first | exact Below.refl _ _ | assumption | apply ba | apply bd | apply bdr | (refine bs ?_ (by first | assumption | (simp; done) | (simp; omega))) | (refine bt ?_ (by assumption)))))
  have hc3_0 := fun o => (bcell hb3).1 (w.heap.size) o (by first | (simp; done) | assumption | (simp; omega))
  have hf3_0 := fun o => (bcell hb3).2 (w.heap.size) o (by first | (simp; done) | assumption | (simp; omega))
  have zz3_0 : w.heap.size < w3.heap.size := zz hb3 (by first | (simp; done) | assumption | (simp; omega))
  have hc3_1 := fun o => (bcell hb3).1 (w.heap.size + 1) o (by first | (simp; done) | assumption | (simp; omega))
  have hf3_1 := fun o => (bcell hb3).2 (w.heap.size + 1) o (by first | (simp; done) | assumption | (simp; omega))
  have zz3_1 : w.heap.size + 1 < w3.heap.size := zz hb3 (by first | (simp; done) | assumption | (simp; omega))
  have hc3_2 := fun o => (bcell hb3).1 (w.heap.size + 1 + 1) o (by first | (simp; done) | assumption | (simp; omega))
  have hf3_2 := fun o => (bcell hb3).2 (w.heap.size + 1 + 1) o (by first | (simp; done) | assumption | (simp; omega))
  have zz3_2 : w.heap.size + 1 + 1 < w3.heap.size := zz hb3 (by first | (simp; done) | assumption | (simp; omega))
  go_wp2_with fail
  refine (HO.out _ _).mono ?_
  rintro e w4 ⟨rfl, hb4⟩
  have B4 : Below w.heap.size w w4 := (by repeat (with_reducible (first | exact Below.refl _ _ | assumption | apply ba | apply bd | apply bdr | (refine bs ?_ (by first | assumption | (simp; done) | (simp; omega))) | (refine bt ?_ (by assumption)))))
  have hc4_0 := fun o => (bcell hb4).1 (w.heap.size) o (by first | (simp; done) | assumption | (simp; omega))
  have hf4_0 := fun o => (bcell hb4).2 (w.heap.size) o (by first | (simp; done) | assumption | (simp; omega))
  have zz4_0 : w.heap.size < w4.heap.size := zz hb4 (by first | (simp; done) | assumption | (simp; omega))
  have hc4_1 := fun o => (bcell hb4).1 (w.heap.size + 1) o (by first | (simp; done) | assumption | (simp; omega))
  have hf4_1 := fun o => (bcell hb4).2 (w.heap.size + 1) o (by first | (simp; done) | assumption | (simp; omega))
  have zz4_1 : w.heap.size + 1 < w4.heap.size := zz hb4 (by first | (simp; done) | assumption | (simp; omega))
  have hc4_2 := fun o => (bcell hb4).1 (w.heap.size + 1 + 1) o (by first | (simp; done) | assumption | (simp; omega))
  have hf4_2 := fun o => (bcell hb4).2 (w.heap.size + 1 + 1) o (by first | (simp; done) | assumption | (simp; omega))
  have zz4_2 : w.heap.size + 1 + 1 < w4.heap.size := zz hb4 (by first | (simp; done) | assumption | (simp; omega))
  have hc4_3 := fun o => (bcell hb4).1 (w3.heap.size) o (by first | (simp; done) | assumption | (simp; omega))
  have hf4_3 := fun o => (bcell hb4).2 (w3.heap.size) o (by first | (simp; done) | assumption | (simp; omega))
  have zz4_3 : w3.heap.size < w4.heap.size := zz hb4 (by first | (simp; done) | assumption | (simp; omega))
  go_wp2
  exact bodyPost_ret (v := .agg #[.int .i64 (ri : Nat), .string rn, .int .i64 (ro : Nat)]) (by simp [results, Tryd.results21, go_sem, *] <;> first | rfl | omega) rfl ⟨rfl, (by repeat (with_reducible (first | exact Below.refl _ _ | assumption | apply ba | apply bd | apply bdr | (refine bs ?_ (by first | assumption | (simp; done) | (simp; omega))) | (refine bt ?_ (by assumption)))))⟩
theorem tw0_ttf_tff (xi xo yi yo ki ri ro : Nat) (xn yn kn rn : ByteArray) (HX : Hid (∀ w1 : World, Calls Tryd.prog 37 #[.agg #[.int .i64 (xi : Nat), .string xn, .int .i64 (xo : Nat)]] w1 fun e w' => e = .returned (.tuple #[.bool true, .bool true, .bool false]) ∧ Below w1.heap.size w1 w')) (HY : Hid (∀ w1 : World, Calls Tryd.prog 37 #[.agg #[.int .i64 (yi : Nat), .string yn, .int .i64 (yo : Nat)]] w1 fun e w' => e = .returned (.tuple #[.bool true, .bool false, .bool false]) ∧ Below w1.heap.size w1 w')) (HL : Hid (∀ w1 : World, Calls Tryd.prog 48 #[.agg #[.int .i64 (xi : Nat), .string xn, .int .i64 (xo : Nat)], .agg #[.int .i64 (yi : Nat), .string yn, .int .i64 (yo : Nat)]] w1 fun e w' => (∃ o : Nat, e = .returned (.agg #[.int .i64 (ki : Nat), .string kn, .int .i64 (o : Nat)])) ∧ Below w1.heap.size w1 w')) (HO : Hid (∀ (o : Nat) (w1 : World), Calls Tryd.prog 49 #[.agg #[.int .i64 (ki : Nat), .string kn, .int .i64 (o : Nat)], .bool true, .bool true, .bool false] w1 fun e w' => e = .returned (.agg #[.int .i64 (ri : Nat), .string rn, .int .i64 (ro : Nat)]) ∧ Below w1.heap.size w1 w')) (w : World) :
    Calls Tryd.prog 21 #[.int .i64 0, .agg #[.int .i64 (xi : Nat), .string xn, .int .i64 (xo : Nat)], .agg #[.int .i64 (yi : Nat), .string yn, .int .i64 (yo : Nat)]] w fun e w' => e = .returned (.agg #[.int .i64 (ri : Nat), .string rn, .int .i64 (ro : Nat)]) ∧ Below w.heap.size w w' := by
  go_enter Tryd.func21, Tryd.ntmps21
  go_wp2_with fail
  refine (HX.out _).mono ?_
  rintro e w1 ⟨rfl, hb1⟩
  have B1 : Below w.heap.size w w1 := (by repeat (with_reducible (first | exact Below.refl _ _ | assumption | apply ba | apply bd | apply bdr | (refine bs ?_ (by first | assumption | (simp; done) | (simp; omega))) | (refine bt ?_ (by assumption)))))
  have hc1_0 := fun o => (bcell hb1).1 (w.heap.size) o (by first | (simp; done) | assumption | (simp; omega))
  have hf1_0 := fun o => (bcell hb1).2 (w.heap.size) o (by first | (simp; done) | assumption | (simp; omega))
  have zz1_0 : w.heap.size < w1.heap.size := zz hb1 (by first | (simp; done) | assumption | (simp; omega))
  have hc1_1 := fun o => (bcell hb1).1 (w.heap.size + 1) o (by first | (simp; done) | assumption | (simp; omega))
  have hf1_1 := fun o => (bcell hb1).2 (w.heap.size + 1) o (by first | (simp; done) | assumption | (simp; omega))
  have zz1_1 : w.heap.size + 1 < w1.heap.size := zz hb1 (by first | (simp; done) | assumption | (simp; omega))
  have hc1_2 := fun o => (bcell hb1).1 (w.heap.size + 1 + 1) o (by first | (simp; done) | assumption | (simp; omega))
  have hf1_2 := fun o => (bcell hb1).2 (w.heap.size + 1 + 1) o (by first | (simp; done) | assumption | (simp; omega))
  have zz1_2 : w.heap.size + 1 + 1 < w1.heap.size := zz hb1 (by first | (simp; done) | assumption | (simp; omega))
  go_wp2_with fail
  refine (HY.out _).mono ?_
  rintro e w2 ⟨rfl, hb2⟩
  have B2 : Below w.heap.size w w2 := (by repeat (with_reducible (first | exact Below.refl _ _ | assumption | apply ba | apply bd | apply bdr | (refine bs ?_ (by first | assumption | (simp; done) | (simp; omega))) | (refine bt ?_ (by assumption)))))
  have hc2_0 := fun o => (bcell hb2).1 (w.heap.size) o (by first | (simp; done) | assumption | (simp; omega))
  have hf2_0 := fun o => (bcell hb2).2 (w.heap.size) o (by first | (simp; done) | assumption | (simp; omega))
  have zz2_0 : w.heap.size < w2.heap.size := zz hb2 (by first | (simp; done) | assumption | (simp; omega))
  have hc2_1 := fun o => (bcell hb2).1 (w.heap.size + 1) o (by first | (simp; done) | assumption | (simp; omega))
  have hf2_1 := fun o => (bcell hb2).2 (w.heap.size + 1) o (by first | (simp; done) | assumption | (simp; omega))
  have zz2_1 : w.heap.size + 1 < w2.heap.size := zz hb2 (by first | (simp; done) | assumption | (simp; omega))
  have hc2_2 := fun o => (bcell hb2).1 (w.heap.size + 1 + 1) o (by first | (simp; done) | assumption | (simp; omega))
  have hf2_2 := fun o => (bcell hb2).2 (w.heap.size + 1 + 1) o (by first | (simp; done) | assumption | (simp; omega))
  have zz2_2 : w.heap.size + 1 + 1 < w2.heap.size := zz hb2 (by first | (simp; done) | assumption | (simp; omega))
  go_wp2_with fail
  refine (HL.out _).mono ?_
  rintro e w3 ⟨⟨ko, rfl⟩, hb3⟩
  have B3 : Below w.heap.size w w3 := (by repeat (with_reducible (first | exact Below.refl _ _ | assumption | apply ba | apply bd | apply bdr | (refine bs ?_ (by first | assumption | (simp; done) | (simp; omega))) | (refine bt ?_ (by assumption)))))
  have hc3_0 := fun o => (bcell hb3).1 (w.heap.size) o (by first | (simp; done) | assumption | (simp; omega))
  have hf3_0 := fun o => (bcell hb3).2 (w.heap.size) o (by first | (simp; done) | assumption | (simp; omega))
  have zz3_0 : w.heap.size < w3.heap.size := zz hb3 (by first | (simp; done) | assumption | (simp; omega))
  have hc3_1 := fun o => (bcell hb3).1 (w.heap.size + 1) o (by first | (simp; done) | assumption | (simp; omega))
  have hf3_1 := fun o => (bcell hb3).2 (w.heap.size + 1) o (by first | (simp; done) | assumption | (simp; omega))
  have zz3_1 : w.heap.size + 1 < w3.heap.size := zz hb3 (by first | (simp; done) | assumption | (simp; omega))
  have hc3_2 := fun o => (bcell hb3).1 (w.heap.size + 1 + 1) o (by first | (simp; done) | assumption | (simp; omega))
  have hf3_2 := fun o => (bcell hb3).2 (w.heap.size + 1 + 1) o (by first | (simp; done) | assumption | (simp; omega))
  have zz3_2 : w.heap.size + 1 + 1 < w3.heap.size := zz hb3 (by first | (simp; done) | assumption | (simp; omega))
  go_wp2_with fail
  refine (HO.out _ _).mono ?_
  rintro e w4 ⟨rfl, hb4⟩
  have B4 : Below w.heap.size w w4 := (by repeat (with_reducible (first | exact Below.refl _ _ | assumption | apply ba | apply bd | apply bdr | (refine bs ?_ (by first | assumption | (simp; done) | (simp; omega))) | (refine bt ?_ (by assumption)))))
  have hc4_0 := fun o => (bcell hb4).1 (w.heap.size) o (by first | (simp; done) | assumption | (simp; omega))
  have hf4_0 := fun o => (bcell hb4).2 (w.heap.size) o (by first | (simp; done) | assumption | (simp; omega))
  have zz4_0 : w.heap.size < w4.heap.size := zz hb4 (by first | (simp; done) | assumption | (simp; omega))
  have hc4_1 := fun o => (bcell hb4).1 (w.heap.size + 1) o (by first | (simp; done) | assumption | (simp; omega))
  have hf4_1 := fun o => (bcell hb4).2 (w.heap.size + 1) o (by first | (simp; done) | assumption | (simp; omega))
  have zz4_1 : w.heap.size + 1 < w4.heap.size := zz hb4 (by first | (simp; done) | assumption | (simp; omega))
  have hc4_2 := fun o => (bcell hb4).1 (w.heap.size + 1 + 1) o (by first | (simp; done) | assumption | (simp; omega))
  have hf4_2 := fun o => (bcell hb4).2 (w.heap.size + 1 + 1) o (by first | (simp; done) | assumption | (simp; omega))
  have zz4_2 : w.heap.size + 1 + 1 < w4.heap.size := zz hb4 (by first | (simp; done) | assumption | (simp; omega))
  have hc4_3 := fun o => (bcell hb4).1 (w3.heap.size) o (by first | (simp; done) | assumption | (simp; omega))
  have hf4_3 := fun o => (bcell hb4).2 (w3.heap.size) o (by first | (simp; done) | assumption | (simp; omega))
  have zz4_3 : w3.heap.size < w4.heap.size := zz hb4 (by first | (simp; done) | assumption | (simp; omega))
  go_wp2
  exact bodyPost_ret (v := .agg #[.int .i64 (ri : Nat), .string rn, .int .i64 (ro : Nat)]) (by simp [results, Tryd.results21, go_sem, *] <;> first | rfl | omega) rfl ⟨rfl, (by repeat (with_reducible (first | exact Below.refl _ _ | assumption | apply ba | apply bd | apply bdr | (refine bs ?_ (by first | assumption | (simp; done) | (simp; omega))) | (refine bt ?_ (by assumption)))))⟩
theorem tw0_ttf_ftf (xi xo yi yo ki ri ro : Nat) (xn yn kn rn : ByteArray) (HX : Hid (∀ w1 : World, Calls Tryd.prog 37 #[.agg #[.int .i64 (xi : Nat), .string xn, .int .i64 (xo : Nat)]] w1 fun e w' => e = .returned (.tuple #[.bool true, .bool true, .bool false]) ∧ Below w1.heap.size w1 w')) (HY : Hid (∀ w1 : World, Calls Tryd.prog 37 #[.agg #[.int .i64 (yi : Nat), .string yn, .int .i64 (yo : Nat)]] w1 fun e w' => e = .returned (.tuple #[.bool false, .bool true, .bool false]) ∧ Below w1.heap.size w1 w')) (HL : Hid (∀ w1 : World, Calls Tryd.prog 48 #[.agg #[.int .i64 (xi : Nat), .string xn, .int .i64 (xo : Nat)], .agg #[.int .i64 (yi : Nat), .string yn, .int .i64 (yo : Nat)]] w1 fun e w' => (∃ o : Nat, e = .returned (.agg #[.int .i64 (ki : Nat), .string kn, .int .i64 (o : Nat)])) ∧ Below w1.heap.size w1 w')) (HO : Hid (∀ (o : Nat) (w1 : World), Calls Tryd.prog 49 #[.agg #[.int .i64 (ki : Nat), .string kn, .int .i64 (o : Nat)], .bool true, .bool true, .bool false] w1 fun e w' => e = .returned (.agg #[.int .i64 (ri : Nat), .string rn, .int .i64 (ro : Nat)]) ∧ Below w1.heap.size w1 w')) (w : World) :
    Calls Tryd.prog 21 #[.int .i64 0, .agg #[.int .i64 (xi : Nat), .string xn, .int .i64 (xo : Nat)], .agg #[.int .i64 (yi : Nat), .string yn, .int .i64 (yo : Nat)]] w fun e w' => e = .returned (.agg #[.int .i64 (ri : Nat), .string rn, .int .i64 (ro : Nat)]) ∧ Below w.heap.size w w' := by
  go_enter Tryd.func21, Tryd.ntmps21
  go_wp2_with fail
  refine (HX.out _).mono ?_
  rintro e w1 ⟨rfl, hb1⟩
  have B1 : Below w.heap.size w w1 := (by repeat (with_reducible (first | exact Below.refl _ _ | assumption | apply ba | apply bd | apply bdr | (refine bs ?_ (by first | assumption | (simp; done) | (simp; omega))) | (refine bt ?_ (by assumption)))))
  have hc1_0 := fun o => (bcell hb1).1 (w.heap.size) o (by first | (simp; done) | assumption | (simp; omega))
  have hf1_0 := fun o => (bcell hb1).2 (w.heap.size) o (by first | (simp; done) | assumption | (simp; omega))
  have zz1_0 : w.heap.size < w1.heap.size := zz hb1 (by first | (simp; done) | assumption | (simp; omega))
  have hc1_1 := fun o => (bcell hb1).1 (w.heap.size + 1) o (by first | (simp; done) | assumption | (simp; omega))
  have hf1_1 := fun o => (bcell hb1).2 (w.heap.size + 1) o (by first | (simp; done) | assumption | (simp; omega))
  have zz1_1 : w.heap.size + 1 < w1.heap.size := zz hb1 (by first | (simp; done) | assumption | (simp; omega))
  have hc1_2 := fun o => (bcell hb1).1 (w.heap.size + 1 + 1) o (by first | (simp; done) | assumption | (simp; omega))
  have hf1_2 := fun o => (bcell hb1).2 (w.heap.size + 1 + 1) o (by first | (simp; done) | assumption | (simp; omega))
  have zz1_2 : w.heap.size + 1 + 1 < w1.heap.size := zz hb1 (by first | (simp; done) | assumption | (simp; omega))
  go_wp2_with fail
  refine (HY.out _).mono ?_
  rintro e w2 ⟨rfl, hb2⟩
  have B2 : Below w.heap.size w w2 := (by repeat (with_reducible (first | exact Below.refl _ _ | assumption | apply ba | apply bd | apply bdr | (refine bs ?_ (by first | assumption | (simp; done) | (simp; omega))) | (refine bt ?_ (by assumption)))))
  have hc2_0 := fun o => (bcell hb2).1 (w.heap.size) o (by first | (simp; done) | assumption | (simp; omega))
  have hf2_0 := fun o => (bcell hb2).2 (w.heap.size) o (by first | (simp; done) | assumption | (simp; omega))
  have zz2_0 : w.heap.size < w2.heap.size := zz hb2 (by first | (simp; done) | assumption | (simp; omega))
  have hc2_1 := fun o => (bcell hb2).1 (w.heap.size + 1) o (by first | (simp; done) | assumption | (simp; omega))
  have hf2_1 := fun o => (bcell hb2).2 (w.heap.size + 1) o (by first | (simp; done) | assumption | (simp; omega))
  have zz2_1 : w.heap.size + 1 < w2.heap.size := zz hb2 (by first | (simp; done) | assumption | (simp; omega))
  have hc2_2 := fun o => (bcell hb2).1 (w.heap.size + 1 + 1) o (by first | (simp; done) | assumption | (simp; omega))
  have hf2_2 := fun o => (bcell hb2).2 (w.heap.size + 1 + 1) o (by first | (simp; done) | assumption | (simp; omega))
  have zz2_2 : w.heap.size + 1 + 1 < w2.heap.size := zz hb2 (by first | (simp; done) | assumption | (simp; omega))
  go_wp2_with fail
  refine (HL.out _).mono ?_
  rintro e w3 ⟨⟨ko, rfl⟩, hb3⟩
  have B3 : Below w.heap.size w w3 := (by repeat (with_reducible (first | exact Below.refl _ _ | assumption | apply ba | apply bd | apply bdr | (refine bs ?_ (by first | assumption | (simp; done) | (simp; omega))) | (refine bt ?_ (by assumption)))))
  have hc3_0 := fun o => (bcell hb3).1 (w.heap.size) o (by first | (simp; done) | assumption | (simp; omega))
  have hf3_0 := fun o => (bcell hb3).2 (w.heap.size) o (by first | (simp; done) | assumption | (simp; omega))
  have zz3_0 : w.heap.size < w3.heap.size := zz hb3 (by first | (simp; done) | assumption | (simp; omega))
  have hc3_1 := fun o => (bcell hb3).1 (w.heap.size + 1) o (by first | (simp; done) | assumption | (simp; omega))
  have hf3_1 := fun o => (bcell hb3).2 (w.heap.size + 1) o (by first | (simp; done) | assumption | (simp; omega))
  have zz3_1 : w.heap.size + 1 < w3.heap.size := zz hb3 (by first | (simp; done) | assumption | (simp; omega))
  have hc3_2 := fun o => (bcell hb3).1 (w.heap.size + 1 + 1) o (by first | (simp; done) | assumption | (simp; omega))
  have hf3_2 := fun o => (bcell hb3).2 (w.heap.size + 1 + 1) o (by first | (simp; done) | assumption | (simp; omega))
  have zz3_2 : w.heap.size + 1 + 1 < w3.heap.size := zz hb3 (by first | (simp; done) | assumption | (simp; omega))
  go_wp2_with fail
  refine (HO.out _ _).mono ?_
  rintro e w4 ⟨rfl, hb4⟩
  have B4 : Below w.heap.size w w4 := (by repeat (with_reducible (first | exact Below.refl _ _ | assumption | apply ba | apply bd | apply bdr | (refine bs ?_ (by first | assumption | (simp; done) | (simp; omega))) | (refine bt ?_ (by assumption)))))
  have hc4_0 := fun o => (bcell hb4).1 (w.heap.size) o (by first | (simp; done) | assumption | (simp; omega))
  have hf4_0 := fun o => (bcell hb4).2 (w.heap.size) o (by first | (simp; done) | assumption | (simp; omega))
  have zz4_0 : w.heap.size < w4.heap.size := zz hb4 (by first | (simp; done) | assumption | (simp; omega))
  have hc4_1 := fun o => (bcell hb4).1 (w.heap.size + 1) o (by first | (simp; done) | assumption | (simp; omega))
  have hf4_1 := fun o => (bcell hb4).2 (w.heap.size + 1) o (by first | (simp; done) | assumption | (simp; omega))
  have zz4_1 : w.heap.size + 1 < w4.heap.size := zz hb4 (by first | (simp; done) | assumption | (simp; omega))
  have hc4_2 := fun o => (bcell hb4).1 (w.heap.size + 1 + 1) o (by first | (simp; done) | assumption | (simp; omega))
  have hf4_2 := fun o => (bcell hb4).2 (w.heap.size + 1 + 1) o (by first | (simp; done) | assumption | (simp; omega))
  have zz4_2 : w.heap.size + 1 + 1 < w4.heap.size := zz hb4 (by first | (simp; done) | assumption | (simp; omega))
  have hc4_3 := fun o => (bcell hb4).1 (w3.heap.size) o (by first | (simp; done) | assumption | (simp; omega))
  have hf4_3 := fun o => (bcell hb4).2 (w3.heap.size) o (by first | (simp; done) | assumption | (simp; omega))
  have zz4_3 : w3.heap.size < w4.heap.size := zz hb4 (by first | (simp; done) | assumption | (simp; omega))
  go_wp2
  exact bodyPost_ret (v := .agg #[.int .i64 (ri : Nat), .string rn, .int .i64 (ro : Nat)]) (by simp [results, Tryd.results21, go_sem, *] <;> first | rfl | omega) rfl ⟨rfl, (by repeat (with_reducible (first | exact Below.refl _ _ | assumption | apply ba | apply bd | apply bdr | (refine bs ?_ (by first | assumption | (simp; done) | (simp; omega))) | (refine bt ?_ (by assumption)))))⟩
theorem tw0_ttf_ttf (xi xo yi yo ki ri ro : Nat) (xn yn kn rn : ByteArray) (HX : Hid (∀ w1 : World, Calls Tryd.prog 37 #[.agg #[.int .i64 (xi : Nat), .string xn, .int .i64 (xo : Nat)]] w1 fun e w' => e = .returned (.tuple #[.bool true, .bool true, .bool false]) ∧ Below w1.heap.size w1 w')) (HY : Hid (∀ w1 : World, Calls Tryd.prog 37 #[.agg #[.int .i64 (yi : Nat), .string yn, .int .i64 (yo : Nat)]] w1 fun e w' => e = .returned (.tuple #[.bool true, .bool true, .bool false]) ∧ Below w1.heap.size w1 w')) (HL : Hid (∀ w1 : World, Calls Tryd.prog 48 #[.agg #[.int .i64 (xi : Nat), .string xn, .int .i64 (xo : Nat)], .agg #[.int .i64 (yi : Nat), .string yn, .int .i64 (yo : Nat)]] w1 fun e w' => (∃ o : Nat, e = .returned (.agg #[.int .i64 (ki : Nat), .string kn, .int .i64 (o : Nat)])) ∧ Below w1.heap.size w1 w')) (HO : Hid (∀ (o : Nat) (w1 : World), Calls Tryd.prog 49 #[.agg #[.int .i64 (ki : Nat), .string kn, .int .i64 (o : Nat)], .bool true, .bool true, .bool false] w1 fun e w' => e = .returned (.agg #[.int .i64 (ri : Nat), .string rn, .int .i64 (ro : Nat)]) ∧ Below w1.heap.size w1 w')) (w : World) :
    Calls Tryd.prog 21 #[.int .i64 0, .agg #[.int .i64 (xi : Nat), .string xn, .int .i64 (xo : Nat)], .agg #[.int .i64 (yi : Nat), .string yn, .int .i64 (yo : Nat)]] w fun e w' => e = .returned (.agg #[.int .i64 (ri : Nat), .string rn, .int .i64 (ro : Nat)]) ∧ Below w.heap.size w w' := by
  go_enter Tryd.func21, Tryd.ntmps21
  go_wp2_with fail
  refine (HX.out _).mono ?_
  rintro e w1 ⟨rfl, hb1⟩
  have B1 : Below w.heap.size w w1 := (by repeat (with_reducible (first | exact Below.refl _ _ | assumption | apply ba | apply bd | apply bdr | (refine bs ?_ (by first | assumption | (simp; done) | (simp; omega))) | (refine bt ?_ (by assumption)))))
  have hc1_0 := fun o => (bcell hb1).1 (w.heap.size) o (by first | (simp; done) | assumption | (simp; omega))
  have hf1_0 := fun o => (bcell hb1).2 (w.heap.size) o (by first | (simp; done) | assumption | (simp; omega))
  have zz1_0 : w.heap.size < w1.heap.size := zz hb1 (by first | (simp; done) | assumption | (simp; omega))
  have hc1_1 := fun o => (bcell hb1).1 (w.heap.size + 1) o (by first | (simp; done) | assumption | (simp; omega))
  have hf1_1 := fun o => (bcell hb1).2 (w.heap.size + 1) o (by first | (simp; done) | assumption | (simp; omega))
  have zz1_1 : w.heap.size + 1 < w1.heap.size := zz hb1 (by first | (simp; done) | assumption | (simp; omega))
  have hc1_2 := fun o => (bcell hb1).1 (w.heap.size + 1 + 1) o (by first | (simp; done) | assumption | (simp; omega))
  have hf1_2 := fun o => (bcell hb1).2 (w.heap.size + 1 + 1) o (by first | (simp; done) | assumption | (simp; omega))
  have zz1_2 : w.heap.size + 1 + 1 < w1.heap.size := zz hb1 (by first | (simp; done) | assumption | (simp; omega))
  go_wp2_with fail
  refine (HY.out _).mono ?_
  rintro e w2 ⟨rfl, hb2⟩
  have B2 : Below w.heap.size w w2 := (by repeat (with_reducible (first | exact Below.refl _ _ | assumption | apply ba | apply bd | apply bdr | (refine bs ?_ (by first | assumption | (simp; done) | (simp; omega))) | (refine bt ?_ (by assumption)))))
  have hc2_0 := fun o => (bcell hb2).1 (w.heap.size) o (by first | (simp; done) | assumption | (simp; omega))
  have hf2_0 := fun o => (bcell hb2).2 (w.heap.size) o (by first | (simp; done) | assumption | (simp; omega))
  have zz2_0 : w.heap.size < w2.heap.size := zz hb2 (by first | (simp; done) | assumption | (simp; omega))
  have hc2_1 := fun o => (bcell hb2).1 (w.heap.size + 1) o (by first | (simp; done) | assumption | (simp; omega))
  have hf2_1 := fun o => (bcell hb2).2 (w.heap.size + 1) o (by first | (simp; done) | assumption | (simp; omega))
  have zz2_1 : w.heap.size + 1 < w2.heap.size := zz hb2 (by first | (simp; done) | assumption | (simp; omega))
  have hc2_2 := fun o => (bcell hb2).1 (w.heap.size + 1 + 1) o (by first | (simp; done) | assumption | (simp; omega))
  have hf2_2 := fun o => (bcell hb2).2 (w.heap.size + 1 + 1) o (by first | (simp; done) | assumption | (simp; omega))
  have zz2_2 : w.heap.size + 1 + 1 < w2.heap.size := zz hb2 (by first | (simp; done) | assumption | (simp; omega))
  go_wp2_with fail
  refine (HL.out _).mono ?_
  rintro e w3 ⟨⟨ko, rfl⟩, hb3⟩
  have B3 : Below w.heap.size w w3 := (by repeat (with_reducible (first | exact Below.refl _ _ | assumption | apply ba | apply bd | apply bdr | (refine bs ?_ (by first | assumption | (simp; done) | (simp; omega))) | (refine bt ?_ (by assumption)))))
  have hc3_0 := fun o => (bcell hb3).1 (w.heap.size) o (by first | (simp; done) | assumption | (simp; omega))
  have hf3_0 := fun o => (bcell hb3).2 (w.heap.size) o (by first | (simp; done) | assumption | (simp; omega))
  have zz3_0 : w.heap.size < w3.heap.size := zz hb3 (by first | (simp; done) | assumption | (simp; omega))
  have hc3_1 := fun o => (bcell hb3).1 (w.heap.size + 1) o (by first | (simp; done) | assumption | (simp; omega))
  have hf3_1 := fun o => (bcell hb3).2 (w.heap.size + 1) o (by first | (simp; done) | assumption | (simp; omega))
  have zz3_1 : w.heap.size + 1 < w3.heap.size := zz hb3 (by first | (simp; done) | assumption | (simp; omega))
  have hc3_2 := fun o => (bcell hb3).1 (w.heap.size + 1 + 1) o (by first | (simp; done) | assumption | (simp; omega))
  have hf3_2 := fun o => (bcell hb3).2 (w.heap.size + 1 + 1) o (by first | (simp; done) | assumption | (simp; omega))
  have zz3_2 : w.heap.size + 1 + 1 < w3.heap.size := zz hb3 (by first | (simp; done) | assumption | (simp; omega))
  go_wp2_with fail
  refine (HO.out _ _).mono ?_
  rintro e w4 ⟨rfl, hb4⟩
  have B4 : Below w.heap.size w w4 := (by repeat (with_reducible (first | exact Below.refl _ _ | assumption | apply ba | apply bd | apply bdr | (refine bs ?_ (by first | assumption | (simp; done) | (simp; omega))) | (refine bt ?_ (by assumption)))))
  have hc4_0 := fun o => (bcell hb4).1 (w.heap.size) o (by first | (simp; done) | assumption | (simp; omega))
  have hf4_0 := fun o => (bcell hb4).2 (w.heap.size) o (by first | (simp; done) | assumption | (simp; omega))
  have zz4_0 : w.heap.size < w4.heap.size := zz hb4 (by first | (simp; done) | assumption | (simp; omega))
  have hc4_1 := fun o => (bcell hb4).1 (w.heap.size + 1) o (by first | (simp; done) | assumption | (simp; omega))
  have hf4_1 := fun o => (bcell hb4).2 (w.heap.size + 1) o (by first | (simp; done) | assumption | (simp; omega))
  have zz4_1 : w.heap.size + 1 < w4.heap.size := zz hb4 (by first | (simp; done) | assumption | (simp; omega))
  have hc4_2 := fun o => (bcell hb4).1 (w.heap.size + 1 + 1) o (by first | (simp; done) | assumption | (simp; omega))
  have hf4_2 := fun o => (bcell hb4).2 (w.heap.size + 1 + 1) o (by first | (simp; done) | assumption | (simp; omega))
  have zz4_2 : w.heap.size + 1 + 1 < w4.heap.size := zz hb4 (by first | (simp; done) | assumption | (simp; omega))
  have hc4_3 := fun o => (bcell hb4).1 (w3.heap.size) o (by first | (simp; done) | assumption | (simp; omega))
  have hf4_3 := fun o => (bcell hb4).2 (w3.heap.size) o (by first | (simp; done) | assumption | (simp; omega))
  have zz4_3 : w3.heap.size < w4.heap.size := zz hb4 (by first | (simp; done) | assumption | (simp; omega))
  go_wp2
  exact bodyPost_ret (v := .agg #[.int .i64 (ri : Nat), .string rn, .int .i64 (ro : Nat)]) (by simp [results, Tryd.results21, go_sem, *] <;> first | rfl | omega) rfl ⟨rfl, (by repeat (with_reducible (first | exact Below.refl _ _ | assumption | apply ba | apply bd | apply bdr | (refine bs ?_ (by first | assumption | (simp; done) | (simp; omega))) | (refine bt ?_ (by assumption)))))⟩
theorem tw0_ttf_ftt (xi xo yi yo ki ri ro : Nat) (xn yn kn rn : ByteArray) (HX : Hid (∀ w1 : World, Calls Tryd.prog 37 #[.agg #[.int .i64 (xi : Nat), .string xn, .int .i64 (xo : Nat)]] w1 fun e w' => e = .returned (.tuple #[.bool true, .bool true, .bool false]) ∧ Below w1.heap.size w1 w')) (HY : Hid (∀ w1 : World, Calls Tryd.prog 37 #[.agg #[.int .i64 (yi : Nat), .string yn, .int .i64 (yo : Nat)]] w1 fun e w' => e = .returned (.tuple #[.bool false, .bool true, .bool true]) ∧ Below w1.heap.size w1 w')) (HL : Hid (∀ w1 : World, Calls Tryd.prog 48 #[.agg #[.int .i64 (xi : Nat), .string xn, .int .i64 (xo : Nat)], .agg #[.int .i64 (yi : Nat), .string yn, .int .i64 (yo : Nat)]] w1 fun e w' => (∃ o : Nat, e = .returned (.agg #[.int .i64 (ki : Nat), .string kn, .int .i64 (o : Nat)])) ∧ Below w1.heap.size w1 w')) (HO : Hid (∀ (o : Nat) (w1 : World), Calls Tryd.prog 49 #[.agg #[.int .i64 (ki : Nat), .string kn, .int .i64 (o : Nat)], .bool true, .bool true, .bool true] w1 fun e w' => e = .returned (.agg #[.int .i64 (ri : Nat), .string rn, .int .i64 (ro : Nat)]) ∧ Below w1.heap.size w1 w')) (w : World) :
    Calls Tryd.prog 21 #[.int .i64 0, .agg #[.int .i64 (xi : Nat), .string xn, .int .i64 (xo : Nat)], .agg #[.int .i64 (yi : Nat), .string yn, .int .i64 (yo : Nat)]] w fun e w' => e = .returned (.agg #[.int .i64 (ri : Nat), .string rn, .int .i64 (ro : Nat)]) ∧ Below w.heap.size w w' := by
  go_enter Tryd.func21, Tryd.ntmps21
  go_wp2_with fail
  refine (HX.out _).mono ?_
  rintro e w1 ⟨rfl, hb1⟩
  have B1 : Below w.heap.size w w1 := (by repeat (with_reducible (first | exact Below.refl _ _ | assumption | apply ba | apply bd | apply bdr | (refine bs ?_ (by first | assumption | (simp; done) | (simp; omega))) | (refine bt ?_ (by assumption)))))
  have hc1_0 := fun o => (bcell hb1).1 (w.heap.size) o (by first | (simp; done) | assumption | (simp; omega))
  have hf1_0 := fun o => (bcell hb1).2 (w.heap.size) o (by first | (simp; done) | assumption | (simp; omega))
  have zz1_0 : w.heap.size < w1.heap.size := zz hb1 (by first | (simp; done) | assumption | (simp; omega))
  have hc1_1 := fun o => (bcell hb1).1 (w.heap.size + 1) o (by first | (simp; done) | assumption | (simp; omega))
  have hf1_1 := fun o => (bcell hb1).2 (w.heap.size + 1) o (by first | (simp; done) | assumption | (simp; omega))
  have zz1_1 : w.heap.size + 1 < w1.heap.size := zz hb1 (by first | (simp; done) | assumption | (simp; omega))
  have hc1_2 := fun o => (bcell hb1).1 (w.heap.size + 1 + 1) o (by first | (simp; done) | assumption | (simp; omega))
  have hf1_2 := fun o => (bcell hb1).2 (w.heap.size + 1 + 1) o (by first | (simp; done) | assumption | (simp; omega))
  have zz1_2 : w.heap.size + 1 + 1 < w1.heap.size := zz hb1 (by first | (simp; done) | assumption | (simp; omega))
  go_wp2_with fail
  refine (HY.out _).mono ?_
  rintro e w2 ⟨rfl, hb2⟩
  have B2 : Below w.heap.size w w2 := (by repeat (with_reducible (first | exact Below.refl _ _ | assumption | apply ba | apply bd | apply bdr | (refine bs ?_ (by first | assumption | (simp; done) | (simp; omega))) | (refine bt ?_ (by assumption)))))
  have hc2_0 := fun o => (bcell hb2).1 (w.heap.size) o (by first | (simp; done) | assumption | (simp; omega))
  have hf2_0 := fun o => (bcell hb2).2 (w.heap.size) o (by first | (simp; done) | assumption | (simp; omega))
  have zz2_0 : w.heap.size < w2.heap.size := zz hb2 (by first | (simp; done) | assumption | (simp; omega))
  have hc2_1 := fun o => (bcell hb2).1 (w.heap.size + 1) o (by first | (simp; done) | assumption | (simp; omega))
  have hf2_1 := fun o => (bcell hb2).2 (w.heap.size + 1) o (by first | (simp; done) | assumption | (simp; omega))
  have zz2_1 : w.heap.size + 1 < w2.heap.size := zz hb2 (by first | (simp; done) | assumption | (simp; omega))
  have hc2_2 := fun o => (bcell hb2).1 (w.heap.size + 1 + 1) o (by first | (simp; done) | assumption | (simp; omega))
  have hf2_2 := fun o => (bcell hb2).2 (w.heap.size + 1 + 1) o (by first | (simp; done) | assumption | (simp; omega))
  have zz2_2 : w.heap.size + 1 + 1 < w2.heap.size := zz hb2 (by first | (simp; done) | assumption | (simp; omega))
  go_wp2_with fail
  refine (HL.out _).mono ?_
  rintro e w3 ⟨⟨ko, rfl⟩, hb3⟩
  have B3 : Below w.heap.size w w3 := (by repeat (with_reducible (first | exact Below.refl _ _ | assumption | apply ba | apply bd | apply bdr | (refine bs ?_ (by first | assumption | (simp; done) | (simp; omega))) | (refine bt ?_ (by assumption)))))
  have hc3_0 := fun o => (bcell hb3).1 (w.heap.size) o (by first | (simp; done) | assumption | (simp; omega))
  have hf3_0 := fun o => (bcell hb3).2 (w.heap.size) o (by first | (simp; done) | assumption | (simp; omega))
  have zz3_0 : w.heap.size < w3.heap.size := zz hb3 (by first | (simp; done) | assumption | (simp; omega))
  have hc3_1 := fun o => (bcell hb3).1 (w.heap.size + 1) o (by first | (simp; done) | assumption | (simp; omega))
  have hf3_1 := fun o => (bcell hb3).2 (w.heap.size + 1) o (by first | (simp; done) | assumption | (simp; omega))
  have zz3_1 : w.heap.size + 1 < w3.heap.size := zz hb3 (by first | (simp; done) | assumption | (simp; omega))
  have hc3_2 := fun o => (bcell hb3).1 (w.heap.size + 1 + 1) o (by first | (simp; done) | assumption | (simp; omega))
  have hf3_2 := fun o => (bcell hb3).2 (w.heap.size + 1 + 1) o (by first | (simp; done) | assumption | (simp; omega))
  have zz3_2 : w.heap.size + 1 + 1 < w3.heap.size := zz hb3 (by first | (simp; done) | assumption | (simp; omega))
  go_wp2_with fail
  refine (HO.out _ _).mono ?_
  rintro e w4 ⟨rfl, hb4⟩
  have B4 : Below w.heap.size w w4 := (by repeat (with_reducible (first | exact Below.refl _ _ | assumption | apply ba | apply bd | apply bdr | (refine bs ?_ (by first | assumption | (simp; done) | (simp; omega))) | (refine bt ?_ (by assumption)))))
  have hc4_0 := fun o => (bcell hb4).1 (w.heap.size) o (by first | (simp; done) | assumption | (simp; omega))
  have hf4_0 := fun o => (bcell hb4).2 (w.heap.size) o (by first | (simp; done) | assumption | (simp; omega))
  have zz4_0 : w.heap.size < w4.heap.size := zz hb4 (by first | (simp; done) | assumption | (simp; omega))
  have hc4_1 := fun o => (bcell hb4).1 (w.heap.size + 1) o (by first | (simp; done) | assumption | (simp; omega))
  have hf4_1 := fun o => (bcell hb4).2 (w.heap.size + 1) o (by first | (simp; done) | assumption | (simp; omega))
  have zz4_1 : w.heap.size + 1 < w4.heap.size := zz hb4 (by first | (simp; done) | assumption | (simp; omega))
  have hc4_2 := fun o => (bcell hb4).1 (w.heap.size + 1 + 1) o (by first | (simp; done) | assumption | (simp; omega))
  have hf4_2 := fun o => (bcell hb4).2 (w.heap.size + 1 + 1) o (by first | (simp; done) | assumption | (simp; omega))
  have zz4_2 : w.heap.size + 1 + 1 < w4.heap.size := zz hb4 (by first | (simp; done) | assumption | (simp; omega))
  have hc4_3 := fun o => (bcell hb4).1 (w3.heap.size) o (by first | (simp; done) | assumption | (simp; omega))
  have hf4_3 := fun o => (bcell hb4).2 (w3.heap.size) o (by first | (simp; done) | assumption | (simp; omega))
  have zz4_3 : w3.heap.size < w4.heap.size := zz hb4 (by first | (simp; done) | assumption | (simp; omega))
  go_wp2
  exact bodyPost_ret (v := .agg #[.int .i64 (ri : Nat), .string rn, .int .i64 (ro : Nat)]) (by simp [results, Tryd.results21, go_sem, *] <;> first | rfl | omega) rfl ⟨rfl, (by repeat (with_reducible (first | exact Below.refl _ _ | assumption | apply ba | apply bd | apply bdr | (refine bs ?_ (by first | assumption | (simp; done) | (simp; omega))) | (refine bt ?_ (by assumption)))))⟩
theorem tw0_ttf_ttt (xi xo yi yo ki ri ro : Nat) (xn yn kn rn : ByteArray) (HX : Hid (∀ w1 : World, Calls Tryd.prog 37 #[.agg #[.int .i64 (xi : Nat), .string xn, .int .i64 (xo : Nat)]] w1 fun e w' => e = .returned (.tuple #[.bool true, .bool true, .bool false]) ∧ Below w1.heap.size w1 w')) (HY : Hid (∀ w1 : World, Calls Tryd.prog 37 #[.agg #[.int .i64 (yi : Nat), .string yn, .int .i64 (yo : Nat)]] w1 fun e w' => e = .returned (.tuple #[.bool true, .bool true, .bool true]) ∧ Below w1.heap.size w1 w')) (HL : Hid (∀ w1 : World, Calls Tryd.prog 48 #[.agg #[.int .i64 (xi : Nat), .string xn, .int .i64 (xo : Nat)], .agg #[.int .i64 (yi : Nat), .string yn, .int .i64 (yo : Nat)]] w1 fun e w' => (∃ o : Nat, e = .returned (.agg #[.int .i64 (ki : Nat), .string kn, .int .i64 (o : Nat)])) ∧ Below w1.heap.size w1 w')) (HO : Hid (∀ (o : Nat) (w1 : World), Calls Tryd.prog 49 #[.agg #[.int .i64 (ki : Nat), .string kn, .int .i64 (o : Nat)], .bool true, .bool true, .bool true] w1 fun e w' => e = .returned (.agg #[.int .i64 (ri : Nat), .string rn, .int .i64 (ro : Nat)]) ∧ Below w1.heap.size w1 w')) (w : World) :
    Calls Tryd.prog 21 #[.int .i64 0, .agg #[.int .i64 (xi : Nat), .string xn, .int .i64 (xo : Nat)], .agg #[.int .i64 (yi : Nat), .string yn, .int .i64 (yo : Nat)]] w fun e w' => e = .returned (.agg #[.int .i64 (ri : Nat), .string rn, .int .i64 (ro : Nat)]) ∧ Below w.heap.size w w' := by
  go_enter Tryd.func21, Tryd.ntmps21
  go_wp2_with fail
  refine (HX.out _).mono ?_
  rintro e w1 ⟨rfl, hb1⟩
  have B1 : Below w.heap.size w w1 := (by repeat (with_reducible (first | exact Below.refl _ _ | assumption | apply ba | apply bd | apply bdr | (refine bs ?_ (by first | assumption | (simp; done) | (simp; omega))) | (refine bt ?_ (by assumption)))))
  have hc1_0 := fun o => (bcell hb1).1 (w.heap.size) o (by first | (simp; done) | assumption | (simp; omega))
  have hf1_0 := fun o => (bcell hb1).2 (w.heap.size) o (by first | (simp; done) | assumption | (simp; omega))
  have zz1_0 : w.heap.size < w1.heap.size := zz hb1 (by first | (simp; done) | assumption | (simp; omega))
  have hc1_1 := fun o => (bcell hb1).1 (w.heap.size + 1) o (by first | (simp; done) | assumption | (simp; omega))
  have hf1_1 := fun o => (bcell hb1).2 (w.heap.size + 1) o (by first | (simp; done) | assumption | (simp; omega))
  have zz1_1 : w.heap.size + 1 < w1.heap.size := zz hb1 (by first | (simp; done) | assumption | (simp; omega))
  have hc1_2 := fun o => (bcell hb1).1 (w.heap.size + 1 + 1) o (by first | (simp; done) | assumption | (simp; omega))
  have hf1_2 := fun o => (bcell hb1).2 (w.heap.size + 1 + 1) o (by first | (simp; done) | assumption | (simp; omega))
  have zz1_2 : w.heap.size + 1 + 1 < w1.heap.size := zz hb1 (by first | (simp; done) | assumption | (simp; omega))
  go_wp2_with fail
  refine (HY.out _).mono ?_
  rintro e w2 ⟨rfl, hb2⟩
  have B2 : Below w.heap.size w w2 := (by repeat (with_reducible (first | exact Below.refl _ _ | assumption | apply ba | apply bd | apply bdr | (refine bs ?_ (by first | assumption | (simp; done) | (simp; omega))) | (refine bt ?_ (by assumption)))))
  have hc2_0 := fun o => (bcell hb2).1 (w.heap.size) o (by first | (simp; done) | assumption | (simp; omega))
  have hf2_0 := fun o => (bcell hb2).2 (w.heap.size) o (by first | (simp; done) | assumption | (simp; omega))
  have zz2_0 : w.heap.size < w2.heap.size := zz hb2 (by first | (simp; done) | assumption | (simp; omega))
  have hc2_1 := fun o => (bcell hb2).1 (w.heap.size + 1) o (by first | (simp; done) | assumption | (simp; omega))
  have hf2_1 := fun o => (bcell hb2).2 (w.heap.size + 1) o (by first | (simp; done) | assumption | (simp; omega))
  have zz2_1 : w.heap.size + 1 < w2.heap.size := zz hb2 (by first | (simp; done) | assumption | (simp; omega))
  have hc2_2 := fun o => (bcell hb2).1 (w.heap.size + 1 + 1) o (by first | (simp; done) | assumption | (simp; omega))
  have hf2_2 := fun o => (bcell hb2).2 (w.heap.size + 1 + 1) o (by first | (simp; done) | assumption | (simp; omega))
  have zz2_2 : w.heap.size + 1 + 1 < w2.heap.size := zz hb2 (by first | (simp; done) | assumption | (simp; omega))
  go_wp2_with fail
  refine (HL.out _).mono ?_
  rintro e w3 ⟨⟨ko, rfl⟩, hb3⟩
  have B3 : Below w.heap.size w w3 := (by repeat (with_reducible (first | exact Below.refl _ _ | assumption | apply ba | apply bd | apply bdr | (refine bs ?_ (by first | assumption | (simp; done) | (simp; omega))) | (refine bt ?_ (by assumption)))))
  have hc3_0 := fun o => (bcell hb3).1 (w.heap.size) o (by first | (simp; done) | assumption | (simp; omega))
  have hf3_0 := fun o => (bcell hb3).2 (w.heap.size) o (by first | (simp; done) | assumption | (simp; omega))
  have zz3_0 : w.heap.size < w3.heap.size := zz hb3 (by first | (simp; done) | assumption | (simp; omega))
  have hc3_1 := fun o => (bcell hb3).1 (w.heap.size + 1) o (by first | (simp; done) | assumption | (simp; omega))
  have hf3_1 := fun o => (bcell hb3).2 (w.heap.size + 1) o (by first | (simp; done) | assumption | (simp; omega))
  have zz3_1 : w.heap.size + 1 < w3.heap.size := zz hb3 (by first | (simp; done) | assumption | (simp; omega))
  have hc3_2 := fun o => (bcell hb3).1 (w.heap.size + 1 + 1) o (by first | (simp; done) | assumption | (simp; omega))
  have hf3_2 := fun o => (bcell hb3).2 (w.heap.size + 1 + 1) o (by first | (simp; done) | assumption | (simp; omega))
  have zz3_2 : w.heap.size + 1 + 1 < w3.heap.size := zz hb3 (by first | (simp; done) | assumption | (simp; omega))
  go_wp2_with fail
  refine (HO.out _ _).mono ?_
  rintro e w4 ⟨rfl, hb4⟩
  have B4 : Below w.heap.size w w4 := (by repeat (with_reducible (first | exact Below.refl _ _ | assumption | apply ba | apply bd | apply bdr | (refine bs ?_ (by first | assumption | (simp; done) | (simp; omega))) | (refine bt ?_ (by assumption)))))
  have hc4_0 := fun o => (bcell hb4).1 (w.heap.size) o (by first | (simp; done) | assumption | (simp; omega))
  have hf4_0 := fun o => (bcell hb4).2 (w.heap.size) o (by first | (simp; done) | assumption | (simp; omega))
  have zz4_0 : w.heap.size < w4.heap.size := zz hb4 (by first | (simp; done) | assumption | (simp; omega))
  have hc4_1 := fun o => (bcell hb4).1 (w.heap.size + 1) o (by first | (simp; done) | assumption | (simp; omega))
  have hf4_1 := fun o => (bcell hb4).2 (w.heap.size + 1) o (by first | (simp; done) | assumption | (simp; omega))
  have zz4_1 : w.heap.size + 1 < w4.heap.size := zz hb4 (by first | (simp; done) | assumption | (simp; omega))
  have hc4_2 := fun o => (bcell hb4).1 (w.heap.size + 1 + 1) o (by first | (simp; done) | assumption | (simp; omega))
  have hf4_2 := fun o => (bcell hb4).2 (w.heap.size + 1 + 1) o (by first | (simp; done) | assumption | (simp; omega))
  have zz4_2 : w.heap.size + 1 + 1 < w4.heap.size := zz hb4 (by first | (simp; done) | assumption | (simp; omega))
  have hc4_3 := fun o => (bcell hb4).1 (w3.heap.size) o (by first | (simp; done) | assumption | (simp; omega))
  have hf4_3 := fun o => (bcell hb4).2 (w3.heap.size) o (by first | (simp; done) | assumption | (simp; omega))
  have zz4_3 : w3.heap.size < w4.heap.size := zz hb4 (by first | (simp; done) | assumption | (simp; omega))
  go_wp2
  exact bodyPost_ret (v := .agg #[.int .i64 (ri : Nat), .string rn, .int .i64 (ro : Nat)]) (by simp [results, Tryd.results21, go_sem, *] <;> first | rfl | omega) rfl ⟨rfl, (by repeat (with_reducible (first | exact Below.refl _ _ | assumption | apply ba | apply bd | apply bdr | (refine bs ?_ (by first | assumption | (simp; done) | (simp; omega))) | (refine bt ?_ (by assumption)))))⟩
theorem tw0_ftt_tff (xi xo yi yo ki ri ro : Nat) (xn yn kn rn : ByteArray) (HX : Hid (∀ w1 : World, Calls Tryd.prog 37 #[.agg #[.int .i64 (xi : Nat), .string xn, .int .i64 (xo : Nat)]] w1 fun e w' => e = .returned (.tuple #[.bool false, .bool true, .bool true]) ∧ Below w1.heap.size w1 w')) (HY : Hid (∀ w1 : World, Calls Tryd.prog 37 #[.agg #[.int .i64 (yi : Nat), .string yn, .int .i64 (yo : Nat)]] w1 fun e w' => e = .returned (.tuple #[.bool true, .bool false, .bool false]) ∧ Below w1.heap.size w1 w')) (HL : Hid (∀ w1 : World, Calls Tryd.prog 48 #[.agg #[.int .i64 (xi : Nat), .string xn, .int .i64 (xo : Nat)], .agg #[.int .i64 (yi : Nat), .string yn, .int .i64 (yo : Nat)]] w1 fun e w' => (∃ o : Nat, e = .returned (.agg #[.int .i64 (ki : Nat), .string kn, .int .i64 (o : Nat)])) ∧ Below w1.heap.size w1 w')) (HO : Hid (∀ (o : Nat) (w1 : World), Calls Tryd.prog 49 #[.agg #[.int .i64 (ki : Nat), .string kn, .int .i64 (o : Nat)], .bool true, .bool true, .bool true] w1 fun e w' => e = .returned (.agg #[.int .i64 (ri : Nat), .string rn, .int .i64 (ro : Nat)]) ∧ Below w1.heap.size w1 w')) (w : World) :
    Calls Tryd.prog 21 #[.int .i64 0, .agg #[.int .i64 (xi : Nat), .string xn, .int .i64 (xo : Nat)], .agg #[.int .i64 (yi : Nat), .string yn, .int .i64 (yo : Nat)]] w fun e w' => e = .returned (.agg #[.int .i64 (ri : Nat), .string rn, .int .i64 (ro : Nat)]) ∧ Below w.heap.size w w' := by
  go_enter Tryd.func21, Tryd.ntmps21
  go_wp2_with fail
  refine (HX.out _).mono ?_
  rintro e w1 ⟨rfl, hb1⟩
  have B1 : Below w.heap.size w w1 := (by repeat (with_reducible (first | exact Below.refl _ _ | assumption | apply ba | apply bd | apply bdr | (refine bs ?_ (by first | assumption | (simp; done) | (simp; omega))) | (refine bt ?_ (by assumption)))))
  have hc1_0 := fun o => (bcell hb1).1 (w.heap.size) o (by first | (simp; done) | assumption | (simp; omega))
  have hf1_0 := fun o => (bcell hb1).2 (w.heap.size) o (by first | (simp; done) | assumption | (simp; omega))
  have zz1_0 : w.heap.size < w1.heap.size := zz hb1 (by first | (simp; done) | assumption | (simp; omega))
  have hc1_1 := fun o => (bcell hb1).1 (w.heap.size + 1) o (by first | (simp; done) | assumption | (simp; omega))
  have hf1_1 := fun o => (bcell hb1).2 (w.heap.size + 1) o (by first | (simp; done) | assumption | (simp; omega))
  have zz1_1 : w.heap.size + 1 < w1.heap.size := zz hb1 (by first | (simp; done) | assumption | (simp; omega))
  have hc1_2 := fun o => (bcell hb1).1 (w.heap.size + 1 + 1) o (by first | (simp; done) | assumption | (simp; omega))
  have hf1_2 := fun o => (bcell hb1).2 (w.heap.size + 1 + 1) o (by first | (simp; done) | assumption | (simp; omega))
  have zz1_2 : w.heap.size + 1 + 1 < w1.heap.size := zz hb1 (by first | (simp; done) | assumption | (simp; omega))
  go_wp2_with fail
  refine (HY.out _).mono ?_
  rintro e w2 ⟨rfl, hb2⟩
  have B2 : Below w.heap.size w w2 := (by repeat (with_reducible (first | exact Below.refl _ _ | assumption | apply ba | apply bd | apply bdr | (refine bs ?_ (by first | assumption | (simp; done) | (simp; omega))) | (refine bt ?_ (by assumption)))))
  have hc2_0 := fun o => (bcell hb2).1 (w.heap.size) o (by first | (simp; done) | assumption | (simp; omega))
  have hf2_0 := fun o => (bcell hb2).2 (w.heap.size) o (by first | (simp; done) | assumption | (simp; omega))
  have zz2_0 : w.heap.size < w2.heap.size := zz hb2 (by first | (simp; done) | assumption | (simp; omega))
  have hc2_1 := fun o => (bcell hb2).1 (w.heap.size + 1) o (by first | (simp; done) | assumption | (simp; omega))
  have hf2_1 := fun o => (bcell hb2).2 (w.heap.size + 1) o (by first | (simp; done) | assumption | (simp; omega))
  have zz2_1 : w.heap.size + 1 < w2.heap.size := zz hb2 (by first | (simp; done) | assumption | (simp; omega))
  have hc2_2 := fun o => (bcell hb2).1 (w.heap.size + 1 + 1) o (by first | (simp; done) | assumption | (simp; omega))
  have hf2_2 := fun o => (bcell hb2).2 (w.heap.size + 1 + 1) o (by first | (simp; done) | assumption | (simp; omega))
  have zz2_2 : w.heap.size + 1 + 1 < w2.heap.size := zz hb2 (by first | (simp; done) | assumption | (simp; omega))
  go_wp2_with fail
  refine (HL.out _).mono ?_
  rintro e w3 ⟨⟨ko, rfl⟩, hb3⟩
  have B3 : Below w.heap.size w w3 := (by repeat (with_reducible (first | exact Below.refl _ _ | assumption | apply ba | apply bd | apply bdr | (refine bs ?_ (by first | assumption | (simp; done) | (simp; omega))) | (refine bt ?_ (by assumption)))))
  have hc3_0 := fun o => (bcell hb3).1 (w.heap.size) o (by first | (simp; done) | assumption | (simp; omega))
  have hf3_0 := fun o => (bcell hb3).2 (w.heap.size) o (by first | (simp; done) | assumption | (simp; omega))
  have zz3_0 : w.heap.size < w3.heap.size := zz hb3 (by first | (simp; done) | assumption | (simp; omega))
  have hc3_1 := fun o => (bcell hb3).1 (w.heap.size + 1) o (by first | (simp; done) | assumption | (simp; omega))
  have hf3_1 := fun o => (bcell hb3).2 (w.heap.size + 1) o (by first | (simp; done) | assumption | (simp; omega))
  have zz3_1 : w.heap.size + 1 < w3.heap.size := zz hb3 (by first | (simp; done) | assumption | (simp; omega))
  have hc3_2 := fun o => (bcell hb3).1 (w.heap.size + 1 + 1) o (by first | (simp; done) | assumption | (simp; omega))
  have hf3_2 := fun o => (bcell hb3).2 (w.heap.size + 1 + 1) o (by first | (simp; done) | assumption | (simp; omega))
  have zz3_2 : w.heap.size + 1 + 1 < w3.heap.size := zz hb3 (by first | (simp; done) | assumption | (simp; omega))
  go_wp2_with fail
  refine (HO.out _ _).mono ?_
  rintro e w4 ⟨rfl, hb4⟩
  have B4 : Below w.heap.size w w4 := (by repeat (with_reducible (first | exact Below.refl _ _ | assumption | apply ba | apply bd | apply bdr | (refine bs ?_ (by first | assumption | (simp; done) | (simp; omega))) | (refine bt ?_ (by assumption)))))
  have hc4_0 := fun o => (bcell hb4).1 (w.heap.size) o (by first | (simp; done) | assumption | (simp; omega))
  have hf4_0 := fun o => (bcell hb4).2 (w.heap.size) o (by first | (simp; done) | assumption | (simp; omega))
  have zz4_0 : w.heap.size < w4.heap.size := zz hb4 (by first | (simp; done) | assumption | (simp; omega))
  have hc4_1 := fun o => (bcell hb4).1 (w.heap.size + 1) o (by first | (simp; done) | assumption | (simp; omega))
  have hf4_1 := fun o => (bcell hb4).2 (w.heap.size + 1) o (by first | (simp; done) | assumption | (simp; omega))
  have zz4_1 : w.heap.size + 1 < w4.heap.size := zz hb4 (by first | (simp; done) | assumption | (simp; omega))
  have hc4_2 := fun o => (bcell hb4).1 (w.heap.size + 1 + 1) o (by first | (simp; done) | assumption | (simp; omega))
  have hf4_2 := fun o => (bcell hb4).2 (w.heap.size + 1 + 1) o (by first | (simp; done) | assumption | (simp; omega))
  have zz4_2 : w.heap.size + 1 + 1 < w4.heap.size := zz hb4 (by first | (simp; done) | assumption | (simp; omega))
  have hc4_3 := fun o => (bcell hb4).1 (w3.heap.size) o (by first | (simp; done) | assumption | (simp; omega))
  have hf4_3 := fun o => (bcell hb4).2 (w3.heap.size) o (by first | (simp; done) | assumption | (simp; omega))
  have zz4_3 : w3.heap.size < w4.heap.size := zz hb4 (by first | (simp; done) | assumption | (simp; omega))
  go_wp2
  exact bodyPost_ret (v := .agg #[.int .i64 (ri : Nat), .string rn, .int .i64 (ro : Nat)]) (by simp [results, Tryd.results21, go_sem, *] <;> first | rfl | omega) rfl ⟨rfl, (by repeat (with_reducible (first | exact Below.refl _ _ | assumption | apply ba | apply bd | apply bdr | (refine bs ?_ (by first | assumption | (simp; done) | (simp; omega))) | (refine bt ?_ (by assumption)))))⟩
theorem tw0_ftt_ftf (xi xo yi yo ki ri ro : Nat) (xn yn kn rn : ByteArray) (HX : Hid (∀ w1 : World, Calls Tryd.prog 37 #[.agg #[.int .i64 (xi : Nat), .string xn, .int .i64 (xo : Nat)]] w1 fun e w' => e = .returned (.tuple #[.bool false, .bool true, .bool true]) ∧ Below w1.heap.size w1 w')) (HY : Hid (∀ w1 : World, Calls Tryd.prog 37 #[.agg #[.int .i64 (yi : Nat), .string yn, .int .i64 (yo : Nat)]] w1 fun e w' => e = .returned (.tuple #[.bool false, .bool true, .bool false]) ∧ Below w1.heap.size w1 w')) (HL : Hid (∀ w1 : World, Calls Tryd.prog 48 #[.agg #[.int .i64 (xi : Nat), .string xn, .int .i64 (xo : Nat)], .agg #[.int .i64 (yi : Nat), .string yn, .int .i64 (yo : Nat)]] w1 fun e w' => (∃ o : Nat, e = .returned (.agg #[.int .i64 (ki : Nat), .string kn, .int .i64 (o : Nat)])) ∧ Below w1.heap.size w1 w')) (HO : Hid (∀ (o : Nat) (w1 : World), Calls Tryd.prog 49 #[.agg #[.int .i64 (ki : Nat), .string kn, .int .i64 (o : Nat)], .bool false, .bool true, .bool true] w1 fun e w' => e = .returned (.agg #[.int .i64 (ri : Nat), .string rn, .int .i64 (ro : Nat)]) ∧ Below w1.heap.size w1 w')) (w : World) :
    Calls Tryd.prog 21 #[.int .i64 0, .agg #[.int .i64 (xi : Nat), .string xn, .int .i64 (xo : Nat)], .agg #[.int .i64 (yi : Nat), .string yn, .int .i64 (yo : Nat)]] w fun e w' => e = .returned (.agg #[.int .i64 (ri : Nat), .string rn, .int .i64 (ro : Nat)]) ∧ Below w.heap.size w w' := by
  go_enter Tryd.func21, Tryd.ntmps21
  go_wp2_with fail
  refine (HX.out _).mono ?_
  rintro e w1 ⟨rfl, hb1⟩
  have B1 : Below w.heap.size w w1 := (by repeat (with_reducible (first | exact Below.refl _ _ | assumption | apply ba | apply bd | apply bdr | (refine bs ?_ (by first | assumption | (simp; done) | (simp; omega))) | (refine bt ?_ (by assumption)))))
  have hc1_0 := fun o => (bcell hb1).1 (w.heap.size) o (by first | (simp; done) | assumption | (simp; omega))
  have hf1_0 := fun o => (bcell hb1).2 (w.heap.size) o (by first | (simp; done) | assumption | (simp; omega))
  have zz1_0 : w.heap.size < w1.heap.size := zz hb1 (by first | (simp; done) | assumption | (simp; omega))
  have hc1_1 := fun o => (bcell hb1).1 (w.heap.size + 1) o (by first | (simp; done) | assumption | (simp; omega))
  have hf1_1 := fun o => (bcell hb1).2 (w.heap.size + 1) o (by first | (simp; done) | assumption | (simp; omega))
  have zz1_1 : w.heap.size + 1 < w1.heap.size := zz hb1 (by first | (simp; done) | assumption | (simp; omega))
  have hc1_2 := fun o => (bcell hb1).1 (w.heap.size + 1 + 1) o (by first | (simp; done) | assumption | (simp; omega))
  have hf1_2 := fun o => (bcell hb1).2 (w.heap.size + 1 + 1) o (by first | (simp; done) | assumption | (simp; omega))
  have zz1_2 : w.heap.size + 1 + 1 < w1.heap.size := zz hb1 (by first | (simp; done) | assumption | (simp; omega))
  go_wp2_with fail
  refine (HY.out _).mono ?_
  rintro e w2 ⟨rfl, hb2⟩
  have B2 : Below w.heap.size w w2 := (by repeat (with_reducible (first | exact Below.refl _ _ | assumption | apply ba | apply bd | apply bdr | (refine bs ?_ (by first | assumption | (simp; done) | (simp; omega))) | (refine bt ?_ (by assumption)))))
  have hc2_0 := fun o => (bcell hb2).1 (w.heap.size) o (by first | (simp; done) | assumption | (simp; omega))
  have hf2_0 := fun o => (bcell hb2).2 (w.heap.size) o (by first | (simp; done) | assumption | (simp; omega))
  have zz2_0 : w.heap.size < w2.heap.size := zz hb2 (by first | (simp; done) | assumption | (simp; omega))
  have hc2_1 := fun o => (bcell hb2).1 (w.heap.size + 1) o (by first | (simp; done) | assumption | (simp; omega))
  have hf2_1 := fun o => (bcell hb2).2 (w.heap.size + 1) o (by first | (simp; done) | assumption | (simp; omega))
  have zz2_1 : w.heap.size + 1 < w2.heap.size := zz hb2 (by first | (simp; done) | assumption | (simp; omega))
  have hc2_2 := fun o => (bcell hb2).1 (w.heap.size + 1 + 1) o (by first | (simp; done) | assumption | (simp; omega))
  have hf2_2 := fun o => (bcell hb2).2 (w.heap.size + 1 + 1) o (by first | (simp; done) | assumption | (simp; omega))
  have zz2_2 : w.heap.size + 1 + 1 < w2.heap.size := zz hb2 (by first | (simp; done) | assumption | (simp; omega))
  go_wp2_with fail
  refine (HL.out _).mono ?_
  rintro e w3 ⟨⟨ko, rfl⟩, hb3⟩
  have B3 : Below w.heap.size w w3 := (by repeat (with_reducible (first | exact Below.refl _ _ | assumption | apply ba | apply bd | apply bdr | (refine bs ?_ (by first | assumption | (simp; done) | (simp; omega))) | (refine bt ?_ (by assumption)))))
  have hc3_0 := fun o => (bcell hb3).1 (w.heap.size) o (by first | (simp; done) | assumption | (simp; omega))
  have hf3_0 := fun o => (bcell hb3).2 (w.heap.size) o (by first | (simp; done) | assumption | (simp; omega))
  have zz3_0 : w.heap.size < w3.heap.size := zz hb3 (by first | (simp; done) | assumption | (simp; omega))
  have hc3_1 := fun o => (bcell hb3).1 (w.heap.size + 1) o (by first | (simp; done) | assumption | (simp; omega))
  have hf3_1 := fun o => (bcell hb3).2 (w.heap.size + 1) o (by first | (simp; done) | assumption | (simp; omega))
  have zz3_1 : w.heap.size + 1 < w3.heap.size := zz hb3 (by first | (simp; done) | assumption | (simp; omega))
  have hc3_2 := fun o => (bcell hb3).1 (w.heap.size + 1 + 1) o (by first | (simp; done) | assumption | (simp; omega))
  have hf3_2 := fun o => (bcell hb3).2 (w.heap.size + 1 + 1) o (by first | (simp; done) | assumption | (simp; omega))
  have zz3_2 : w.heap.size + 1 + 1 < w3.heap.size := zz hb3 (by first | (simp; done) | assumption | (simp; omega))
  go_wp2_with fail
  refine (HO.out _ _).mono ?_
  rintro e w4 ⟨rfl, hb4⟩
  have B4 : Below w.heap.size w w4 := (by repeat (with_reducible (first | exact Below.refl _ _ | assumption | apply ba | apply bd | apply bdr | (refine bs ?_ (by first | assumption | (simp; done) | (simp; omega))) | (refine bt ?_ (by assumption)))))
  have hc4_0 := fun o => (bcell hb4).1 (w.heap.size) o (by first | (simp; done) | assumption | (simp; omega))
  have hf4_0 := fun o => (bcell hb4).2 (w.heap.size) o (by first | (simp; done) | assumption | (simp; omega))
  have zz4_0 : w.heap.size < w4.heap.size := zz hb4 (by first | (simp; done) | assumption | (simp; omega))
  have hc4_1 := fun o => (bcell hb4).1 (w.heap.size + 1) o (by first | (simp; done) | assumption | (simp; omega))
  have hf4_1 := fun o => (bcell hb4).2 (w.heap.size + 1) o (by first | (simp; done) | assumption | (simp; omega))
  have zz4_1 : w.heap.size + 1 < w4.heap.size := zz hb4 (by first | (simp; done) | assumption | (simp; omega))
  have hc4_2 := fun o => (bcell hb4).1 (w.heap.size + 1 + 1) o (by first | (simp; done) | assumption | (simp; omega))
  have hf4_2 := fun o => (bcell hb4).2 (w.heap.size + 1 + 1) o (by first | (simp; done) | assumption | (simp; omega))
  have zz4_2 : w.heap.size + 1 + 1 < w4.heap.size := zz hb4 (by first | (simp; done) | assumption | (simp; omega))
  have hc4_3 := fun o => (bcell hb4).1 (w3.heap.size) o (by first | (simp; done) | assumption | (simp; omega))
  have hf4_3 := fun o => (bcell hb4).2 (w3.heap.size) o (by first | (simp; done) | assumption | (simp; omega))
  have zz4_3 : w3.heap.size < w4.heap.size := zz hb4 (by first | (simp; done) | assumption | (simp; omega))
  go_wp2
  exact bodyPost_ret (v := .agg #[.int .i64 (ri : Nat), .string rn, .int .i64 (ro : Nat)]) (by simp [results, Tryd.results21, go_sem, *] <;> first | rfl | omega) rfl ⟨rfl, (by repeat (with_reducible (first | exact Below.refl _ _ | assumption | apply ba | apply bd | apply bdr | (refine bs ?_ (by first | assumption | (simp; done) | (simp; omega))) | (refine bt ?_ (by assumption)))))⟩
theorem tw0_ftt_ttf (xi xo yi yo ki ri ro : Nat) (xn yn kn rn : ByteArray) (HX : Hid (∀ w1 : World, Calls Tryd.prog 37 #[.agg #[.int .i64 (xi : Nat), .string xn, .int .i64 (xo : Nat)]] w1 fun e w' => e = .returned (.tuple #[.bool false, .bool true, .bool true]) ∧ Below w1.heap.size w1 w')) (HY : Hid (∀ w1 : World, Calls Tryd.prog 37 #[.agg #[.int .i64 (yi : Nat), .string yn, .int .i64 (yo : Nat)]] w1 fun e w' => e = .returned (.tuple #[.bool true, .bool true, .bool false]) ∧ Below w1.heap.size w1 w')) (HL : Hid (∀ w1 : World, Calls Tryd.prog 48 #[.agg #[.int .i64 (xi : Nat), .string xn, .int .i64 (xo : Nat)], .agg #[.int .i64 (yi : Nat), .string yn, .int .i64 (yo : Nat)]] w1 fun e w' => (∃ o : Nat, e = .returned (.agg #[.int .i64 (ki : Nat), .string kn, .int .i64 (o : Nat)])) ∧ Below w1.heap.size w1 w')) (HO : Hid (∀ (o : Nat) (w1 : World), Calls Tryd.prog 49 #[.agg #[.int .i64 (ki : Nat), .string kn, .int .i64 (o : Nat)], .bool true, .bool true, .bool true] w1 fun e w' => e = .returned (.agg #[.int .i64 (ri : Nat), .string rn, .int .i64 (ro : Nat)]) ∧ Below w1.heap.size w1 w')) (w : World) :
    Calls Tryd.prog 21 #[.int .i64 0, .agg #[.int .i64 (xi : Nat), .string xn, .int .i64 (xo : Nat)], .agg #[.int .i64 (yi : Nat), .string yn, .int .i64 (yo : Nat)]] w fun e w' => e = .returned (.agg #[.int .i64 (ri : Nat), .string rn, .int .i64 (ro : Nat)]) ∧ Below w.heap.size w w' := by
  go_enter Tryd.func21, Tryd.ntmps21
  go_wp2_with fail
  refine (HX.out _).mono ?_
  rintro e w1 ⟨rfl, hb1⟩
  have B1 : Below w.heap.size w w1 := (by repeat (with_reducible (first | exact Below.refl _ _ | assumption | apply ba | apply bd | apply bdr | (refine bs ?_ (by first | assumption | (simp; done) | (simp; omega))) | (refine bt ?_ (by assumption)))))
  have hc1_0 := fun o => (bcell hb1).1 (w.heap.size) o (by first | (simp; done) | assumption | (simp; omega))
  have hf1_0 := fun o => (bcell hb1).2 (w.heap.size) o (by first | (simp; done) | assumption | (simp; omega))
  have zz1_0 : w.heap.size < w1.heap.size := zz hb1 (by first | (simp; done) | assumption | (simp; omega))
  have hc1_1 := fun o => (bcell hb1).1 (w.heap.size + 1) o (by first | (simp; done) | assumption | (simp; omega))
  have hf1_1 := fun o => (bcell hb1).2 (w.heap.size + 1) o (by first | (simp; done) | assumption | (simp; omega))
  have zz1_1 : w.heap.size + 1 < w1.heap.size := zz hb1 (by first | (simp; done) | assumption | (simp; omega))
  have hc1_2 := fun o => (bcell hb1).1 (w.heap.size + 1 + 1) o (by first | (simp; done) | assumption | (simp; omega))
  have hf1_2 := fun o => (bcell hb1).2 (w.heap.size + 1 + 1) o (by first | (simp; done) | assumption | (simp; omega))
  have zz1_2 : w.heap.size + 1 + 1 < w1.heap.size := zz hb1 (by first | (simp; done) | assumption | (simp; omega))
  go_wp2_with fail
  refine (HY.out _).mono ?_
  rintro e w2 ⟨rfl, hb2⟩
  have B2 : Below w.heap.size w w2 := (by repeat (with_reducible (first | exact Below.refl _ _ | assumption | apply ba | apply bd | apply bdr | (refine bs ?_ (by first | assumption | (simp; done) | (simp; omega))) | (refine bt ?_ (by assumption)))))
  have hc2_0 := fun o => (bcell hb2).1 (w.heap.size) o (by first | (simp; done) | assumption | (simp; omega))
  have hf2_0 := fun o => (bcell hb2).2 (w.heap.size) o (by first | (simp; done) | assumption | (simp; omega))
  have zz2_0 : w.heap.size < w2.heap.size := zz hb2 (by first | (simp; done) | assumption | (simp; omega))
  have hc2_1 := fun o => (bcell hb2).1 (w.heap.size + 1) o (by first | (simp; done) | assumption | (simp; omega))
  have hf2_1 := fun o => (bcell hb2).2 (w.heap.size + 1) o (by first | (simp; done) | assumption | (simp; omega))
  have zz2_1 : w.heap.size + 1 < w2.heap.size := zz hb2 (by first | (simp; done) | assumption | (simp; omega))
  have hc2_2 := fun o => (bcell hb2).1 (w.heap.size + 1 + 1) o (by first | (simp; done) | assumption | (simp; omega))
  have hf2_2 := fun o => (bcell hb2).2 (w.heap.size + 1 + 1) o (by first | (simp; done) | assumption | (simp; omega))
  have zz2_2 : w.heap.size + 1 + 1 < w2.heap.size := zz hb2 (by first | (simp; done) | assumption | (simp; omega))
  go_wp2_with fail
  refine (HL.out _).mono ?_
  rintro e w3 ⟨⟨ko, rfl⟩, hb3⟩
  have B3 : Below w.heap.size w w3 := (by repeat (with_reducible (first | exact Below.refl _ _ | assumption | apply ba | apply bd | apply bdr | (refine bs ?_ (by first | assumption | (simp; done) | (simp; omega))) | (refine bt ?_ (by assumption)))))
  have hc3_0 := fun o => (bcell hb3).1 (w.heap.size) o (by first | (simp; done) | assumption | (simp; omega))
  have hf3_0 := fun o => (bcell hb3).2 (w.heap.size) o (by first | (simp; done) | assumption | (simp; omega))
  have zz3_0 : w.heap.size < w3.heap.size := zz hb3 (by first | (simp; done) | assumption | (simp; omega))
  have hc3_1 := fun o => (bcell hb3).1 (w.heap.size + 1) o (by first | (simp; done) | assumption | (simp; omega))
  have hf3_1 := fun o => (bcell hb3).2 (w.heap.size + 1) o (by first | (simp; done) | assumption | (simp; omega))
  have zz3_1 : w.heap.size + 1 < w3.heap.size := zz hb3 (by first | (simp; done) | assumption | (simp; omega))
  have hc3_2 := fun o => (bcell hb3).1 (w.heap.size + 1 + 1) o (by first | (simp; done) | assumption | (simp; omega))
  have hf3_2 := fun o => (bcell hb3).2 (w.heap.size + 1 + 1) o (by first | (simp; done) | assumption | (simp; omega))
  have zz3_2 : w.heap.size + 1 + 1 < w3.heap.size := zz hb3 (by first | (simp; done) | assumption | (simp; omega))
  go_wp2_with fail
  refine (HO.out _ _).mono ?_
  rintro e w4 ⟨rfl, hb4⟩
  have B4 : Below w.heap.size w w4 := (by repeat (with_reducible (first | exact Below.refl _ _ | assumption | apply ba | apply bd | apply bdr | (refine bs ?_ (by first | assumption | (simp; done) | (simp; omega))) | (refine bt ?_ (by assumption)))))
  have hc4_0 := fun o => (bcell hb4).1 (w.heap.size) o (by first | (simp; done) | assumption | (simp; omega))
  have hf4_0 := fun o => (bcell hb4).2 (w.heap.size) o (by first | (simp; done) | assumption | (simp; omega))
  have zz4_0 : w.heap.size < w4.heap.size := zz hb4 (by first | (simp; done) | assumption | (simp; omega))
  have hc4_1 := fun o => (bcell hb4).1 (w.heap.size + 1) o (by first | (simp; done) | assumption | (simp; omega))
  have hf4_1 := fun o => (bcell hb4).2 (w.heap.size + 1) o (by first | (simp; done) | assumption | (simp; omega))
  have zz4_1 : w.heap.size + 1 < w4.heap.size := zz hb4 (by first | (simp; done) | assumption | (simp; omega))
  have hc4_2 := fun o => (bcell hb4).1 (w.heap.size + 1 + 1) o (by first | (simp; done) | assumption | (simp; omega))
  have hf4_2 := fun o => (bcell hb4).2 (w.heap.size + 1 + 1) o (by first | (simp; done) | assumption | (simp; omega))
  have zz4_2 : w.heap.size + 1 + 1 < w4.heap.size := zz hb4 (by first | (simp; done) | assumption | (simp; omega))
  have hc4_3 := fun o => (bcell hb4).1 (w3.heap.size) o (by first | (simp; done) | assumption | (simp; omega))
  have hf4_3 := fun o => (bcell hb4).2 (w3.heap.size) o (by first | (simp; done) | assumption | (simp; omega))
  have zz4_3 : w3.heap.size < w4.heap.size := zz hb4 (by first | (simp; done) | assumption | (simp; omega))
  go_wp2
  exact bodyPost_ret (v := .agg #[.int .i64 (ri : Nat), .string rn, .int .i64 (ro : Nat)]) (by simp [results, Tryd.results21, go_sem, *] <;> first | rfl | omega) rfl ⟨rfl, (by repeat (with_reducible (first | exact Below.refl _ _ | assumption | apply ba | apply bd | apply bdr | (refine bs ?_ (by first | assumption | (simp; done) | (simp; omega))) | (refine bt ?_ (by assumption)))))⟩
theorem tw0_ftt_ftt (xi xo yi yo ki ri ro : Nat) (xn yn kn rn : ByteArray) (HX : Hid (∀ w1 : World, Calls Tryd.prog 37 #[.agg #[.int .i64 (xi : Nat), .string xn, .int .i64 (xo : Nat)]] w1 fun e w' => e = .returned (.tuple #[.bool false, .bool true, .bool true]) ∧ Below w1.heap.size w1 w')) (HY : Hid (∀ w1 : World, Calls Tryd.prog 37 #[.agg #[.int .i64 (yi : Nat), .string yn, .int .i64 (yo : Nat)]] w1 fun e w' => e = .returned (.tuple #[.bool false, .bool true, .bool true]) ∧ Below w1.heap.size w1 w')) (HL : Hid (∀ w1 : World, Calls Tryd.prog 48 #[.agg #[.int .i64 (xi : Nat), .string xn, .int .i64 (xo : Nat)], .agg #[.int .i64 (yi : Nat), .string yn, .int .i64 (yo : Nat)]] w1 fun e w' => (∃ o : Nat, e = .returned (.agg #[.int .i64 (ki : Nat), .string kn, .int .i64 (o : Nat)])) ∧ Below w1.heap.size w1 w')) (HO : Hid (∀ (o : Nat) (w1 : World), Calls Tryd.prog 49 #[.agg #[.int .i64 (ki : Nat), .string kn, .int .i64 (o : Nat)], .bool false, .bool true, .bool true] w1 fun e w' => e = .returned (.agg #[.int .i64 (ri : Nat), .string rn, .int .i64 (ro : Nat)]) ∧ Below w1.heap.size w1 w')) (w : World) :
    Calls Tryd.prog 21 #[.int .i64 0, .agg #[.int .i64 (xi : Nat), .string xn, .int .i64 (xo : Nat)], .agg #[.int .i64 (yi : Nat), .string yn, .int .i64 (yo : Nat)]] w fun e w' => e = .returned (.agg #[.int .i64 (ri : Nat), .string rn, .int .i64 (ro : Nat)]) ∧ Below w.heap.size w w' := by
  go_enter Tryd.func21, Tryd.ntmps21
  go_wp2_with fail
  refine (HX.out _).mono ?_
  rintro e w1 ⟨rfl, hb1⟩
  have B1 : Below w.heap.size w w1 := (by repeat (with_reducible (first | exact Below.refl _ _ | assumption | apply ba | apply bd | apply bdr | (refine bs ?_ (by first | assumption | (simp; done) | (simp; omega))) | (refine bt ?_ (by assumption)))))
  have hc1_0 := fun o => (bcell hb1).1 (w.heap.size) o (by first | (simp; done) | assumption | (simp; omega))
  have hf1_0 := fun o => (bcell hb1).2 (w.heap.size) o (by first | (simp; done) | assumption | (simp; omega))
  have zz1_0 : w.heap.size < w1.heap.size := zz hb1 (by first | (simp; done) | assumption | (simp; omega))
  have hc1_1 := fun o => (bcell hb1).1 (w.heap.size + 1) o (by first | (simp; done) | assumption | (simp; omega))
  have hf1_1 := fun o => (bcell hb1).2 (w.heap.size + 1) o (by first | (simp; done) | assumption | (simp; omega))
  have zz1_1 : w.heap.size + 1 < w1.heap.size := zz hb1 (by first | (simp; done) | assumption | (simp; omega))
  have hc1_2 := fun o => (bcell hb1).1 (w.heap.size + 1 + 1) o (by first | (simp; done) | assumption | (simp; omega))
  have hf1_2 := fun o => (bcell hb1).2 (w.heap.size + 1 + 1) o (by first | (simp; done) | assumption | (simp; omega))
  have zz1_2 : w.heap.size + 1 + 1 < w1.heap.size := zz hb1 (by first | (simp; done) | assumption | (simp; omega))
  go_wp2_with fail
  refine (HY.out _).mono ?_
  rintro e w2 ⟨rfl, hb2⟩
  have B2 : Below w.heap.size w w2 := (by repeat (with_reducible (first | exact Below.refl _ _ | assumption | apply ba | apply bd | apply bdr | (refine bs ?_ (by first | assumption | (simp; done) | (simp; omega))) | (refine bt ?_ (by assumption)))))
  have hc2_0 := fun o => (bcell hb2).1 (w.heap.size) o (by first | (simp; done) | assumption | (simp; omega))
  have hf2_0 := fun o => (bcell hb2).2 (w.heap.size) o (by first | (simp; done) | assumption | (simp; omega))
  have zz2_0 : w.heap.size < w2.heap.size := zz hb2 (by first | (simp; done) | assumption | (simp; omega))
  have hc2_1 := fun o => (bcell hb2).1 (w.heap.size + 1) o (by first | (simp; done) | assumption | (simp; omega))
  have hf2_1 := fun o => (bcell hb2).2 (w.heap.size + 1) o (by first | (simp; done) | assumption | (simp; omega))
  have zz2_1 : w.heap.size + 1 < w2.heap.size := zz hb2 (by first | (simp; done) | assumption | (simp; omega))
  have hc2_2 := fun o => (bcell hb2).1 (w.heap.size + 1 + 1) o (by first | (simp; done) | assumption | (simp; omega))
  have hf2_2 := fun o => (bcell hb2).2 (w.heap.size + 1 + 1) o (by first | (simp; done) | assumption | (simp; omega))
  have zz2_2 : w.heap.size + 1 + 1 < w2.heap.size := zz hb2 (by first | (simp; done) | assumption | (simp; omega))
  go_wp2_with fail
  refine (HL.out _).mono ?_
  rintro e w3 ⟨⟨ko, rfl⟩, hb3⟩
  have B3 : Below w.heap.size w w3 := (by repeat (with_reducible (first | exact Below.refl _ _ | assumption | apply ba | apply bd | apply bdr | (refine bs ?_ (by first | assumption | (simp; done) | (simp; omega))) | (refine bt ?_ (by assumption)))))
  have hc3_0 := fun o => (bcell hb3).1 (w.heap.size) o (by first | (simp; done) | assumption | (simp; omega))
  have hf3_0 := fun o => (bcell hb3).2 (w.heap.size) o (by first | (simp; done) | assumption | (simp; omega))
  have zz3_0 : w.heap.size < w3.heap.size := zz hb3 (by first | (simp; done) | assumption | (simp; omega))
  have hc3_1 := fun o => (bcell hb3).1 (w.heap.size + 1) o (by first | (simp; done) | assumption | (simp; omega))
  have hf3_1 := fun o => (bcell hb3).2 (w.heap.size + 1) o (by first | (simp; done) | assumption | (simp; omega))
  have zz3_1 : w.heap.size + 1 < w3.heap.size := zz hb3 (by first | (simp; done) | assumption | (simp; omega))
  have hc3_2 := fun o => (bcell hb3).1 (w.heap.size + 1 + 1) o (by first | (simp; done) | assumption | (simp; omega))
  have hf3_2 := fun o => (bcell hb3).2 (w.heap.size + 1 + 1) o (by first | (simp; done) | assumption | (simp; omega))
  have zz3_2 : w.heap.size + 1 + 1 < w3.heap.size := zz hb3 (by first | (simp; done) | assumption | (simp; omega))
  go_wp2_with fail
  refine (HO.out _ _).mono ?_
  rintro e w4 ⟨rfl, hb4⟩
  have B4 : Below w.heap.size w w4 := (by repeat (with_reducible (first | exact Below.refl _ _ | assumption | apply ba | apply bd | apply bdr | (refine bs ?_ (by first | assumption | (simp; done) | (simp; omega))) | (refine bt ?_ (by assumption)))))
  have hc4_0 := fun o => (bcell hb4).1 (w.heap.size) o (by first | (simp; done) | assumption | (simp; omega))
  have hf4_0 := fun o => (bcell hb4).2 (w.heap.size) o (by first | (simp; done) | assumption | (simp; omega))
  have zz4_0 : w.heap.size < w4.heap.size := zz hb4 (by first | (simp; done) | assumption | (simp; omega))
  have hc4_1 := fun o => (bcell hb4).1 (w.heap.size + 1) o (by first | (simp; done) | assumption | (simp; omega))
  have hf4_1 := fun o => (bcell hb4).2 (w.heap.size + 1) o (by first | (simp; done) | assumption | (simp; omega))
  have zz4_1 : w.heap.size + 1 < w4.heap.size := zz hb4 (by first | (simp; done) | assumption | (simp; omega))
  have hc4_2 := fun o => (bcell hb4).1 (w.heap.size + 1 + 1) o (by first | (simp; done) | assumption | (simp; omega))
  have hf4_2 := fun o => (bcell hb4).2 (w.heap.size + 1 + 1) o (by first | (simp; done) | assumption | (simp; omega))
  have zz4_2 : w.heap.size + 1 + 1 < w4.heap.size := zz hb4 (by first | (simp; done) | assumption | (simp; omega))
  have hc4_3 := fun o => (bcell hb4).1 (w3.heap.size) o (by first | (simp; done) | assumption | (simp; omega))
  have hf4_3 := fun o => (bcell hb4).2 (w3.heap.size) o (by first | (simp; done) | assumption | (simp; omega))
  have zz4_3 : w3.heap.size < w4.heap.size := zz hb4 (by first | (simp; done) | assumption | (simp; omega))
  go_wp2
  exact bodyPost_ret (v := .agg #[.int .i64 (ri : Nat), .string rn, .int .i64 (ro : Nat)]) (by simp [results, Tryd.results21, go_sem, *] <;> first | rfl | omega) rfl ⟨rfl, (by repeat (with_reducible (first | exact Below.refl _ _ | assumption | apply ba | apply bd | apply bdr | (refine bs ?_ (by first | assumption | (simp; done) | (simp; omega))) | (refine bt ?_ (by assumption)))))⟩
theorem tw0_ftt_ttt (xi xo yi yo ki ri ro : Nat) (xn yn kn rn : ByteArray) (HX : Hid (∀ w1 : World, Calls Tryd.prog 37 #[.agg #[.int .i64 (xi : Nat), .string xn, .int .i64 (xo : Nat)]] w1 fun e w' => e = .returned (.tuple #[.bool false, .bool true, .bool true]) ∧ Below w1.heap.size w1 w')) (HY : Hid (∀ w1 : World, Calls Tryd.prog 37 #[.agg #[.int .i64 (yi : Nat), .string yn, .int .i64 (yo : Nat)]] w1 fun e w' => e = .returned (.tuple #[.bool true, .bool true, .bool true]) ∧ Below w1.heap.size w1 w')) (HL : Hid (∀ w1 : World, Calls Tryd.prog 48 #[.agg #[.int .i64 (xi : Nat), .string xn, .int .i64 (xo : Nat)], .agg #[.int .i64 (yi : Nat), .string yn, .int .i64 (yo : Nat)]] w1 fun e w' => (∃ o : Nat, e = .returned (.agg #[.int .i64 (ki : Nat), .string kn, .int .i64 (o : Nat)])) ∧ Below w1.heap.size w1 w')) (HO : Hid (∀ (o : Nat) (w1 : World), Calls Tryd.prog 49 #[.agg #[.int .i64 (ki : Nat), .string kn, .int .i64 (o : Nat)], .bool true, .bool true, .bool true] w1 fun e w' => e = .returned (.agg #[.int .i64 (ri : Nat), .string rn, .int .i64 (ro : Nat)]) ∧ Below w1.heap.size w1 w')) (w : World) :
    Calls Tryd.prog 21 #[.int .i64 0, .agg #[.int .i64 (xi : Nat), .string xn, .int .i64 (xo : Nat)], .agg #[.int .i64 (yi : Nat), .string yn, .int .i64 (yo : Nat)]] w fun e w' => e = .returned (.agg #[.int .i64 (ri : Nat), .string rn, .int .i64 (ro : Nat)]) ∧ Below w.heap.size w w' := by
  go_enter Tryd.func21, Tryd.ntmps21
  go_wp2_with fail
  refine (HX.out _).mono ?_
  rintro e w1 ⟨rfl, hb1⟩
  have B1 : Below w.heap.size w w1 := (by repeat (with_reducible (first | exact Below.refl _ _ | assumption | apply ba | apply bd | apply bdr | (refine bs ?_ (by first | assumption | (simp; done) | (simp; omega))) | (refine bt ?_ (by assumption)))))
  have hc1_0 := fun o => (bcell hb1).1 (w.heap.size) o (by first | (simp; done) | assumption | (simp; omega))
  have hf1_0 := fun o => (bcell hb1).2 (w.heap.size) o (by first | (simp; done) | assumption | (simp; omega))
  have zz1_0 : w.heap.size < w1.heap.size := zz hb1 (by first | (simp; done) | assumption | (simp; omega))
  have hc1_1 := fun o => (bcell hb1).1 (w.heap.size + 1) o (by first | (simp; done) | assumption | (simp; omega))
  have hf1_1 := fun o => (bcell hb1).2 (w.heap.size + 1) o (by first | (simp; done) | assumption | (simp; omega))
  have zz1_1 : w.heap.size + 1 < w1.heap.size := zz hb1 (by first | (simp; done) | assumption | (simp; omega))
  have hc1_2 := fun o => (bcell hb1).1 (w.heap.size + 1 + 1) o (by first | (simp; done) | assumption | (simp; omega))
  have hf1_2 := fun o => (bcell hb1).2 (w.heap.size + 1 + 1) o (by first | (simp; done) | assumption | (simp; omega))
  have zz1_2 : w.heap.size + 1 + 1 < w1.heap.size := zz hb1 (by first | (simp; done) | assumption | (simp; omega))
  go_wp2_with fail
  refine (HY.out _).mono ?_
  rintro e w2 ⟨rfl, hb2⟩
  have B2 : Below w.heap.size w w2 := (by repeat (with_reducible (first | exact Below.refl _ _ | assumption | apply ba | apply bd | apply bdr | (refine bs ?_ (by first | assumption | (simp; done) | (simp; omega))) | (refine bt ?_ (by assumption)))))
  have hc2_0 := fun o => (bcell hb2).1 (w.heap.size) o (by first | (simp; done) | assumption | (simp; omega))
  have hf2_0 := fun o => (bcell hb2).2 (w.heap.size) o (by first | (simp; done) | assumption | (simp; omega))
  have zz2_0 : w.heap.size < w2.heap.size := zz hb2 (by first | (simp; done) | assumption | (simp; omega))
  have hc2_1 := fun o => (bcell hb2).1 (w.heap.size + 1) o (by first | (simp; done) | assumption | (simp; omega))
  have hf2_1 := fun o => (bcell hb2).2 (w.heap.size + 1) o (by first | (simp; done) | assumption | (simp; omega))
  have zz2_1 : w.heap.size + 1 < w2.heap.size := zz hb2 (by first | (simp; done) | assumption | (simp; omega))
  have hc2_2 := fun o => (bcell hb2).1 (w.heap.size + 1 + 1) o (by first | (simp; done) | assumption | (simp; omega))
  have hf2_2 := fun o => (bcell hb2).2 (w.heap.size + 1 + 1) o (by first | (simp; done) | assumption | (simp; omega))
  have zz2_2 : w.heap.size + 1 + 1 < w2.heap.size := zz hb2 (by first | (simp; done) | assumption | (simp; omega))
  go_wp2_with fail
  refine (HL.out _).mono ?_
  rintro e w3 ⟨⟨ko, rfl⟩, hb3⟩
  have B3 : Below w.heap.size w w3 := (by repeat (with_reducible (first | exact Below.refl _ _ | assumption | apply ba | apply bd | apply bdr | (refine bs ?_ (by first | assumption | (simp; done) | (simp; omega))) | (refine bt ?_ (by assumption)))))
  have hc3_0 := fun o => (bcell hb3).1 (w.heap.size) o (by first | (simp; done) | assumption | (simp; omega))
  have hf3_0 := fun o => (bcell hb3).2 (w.heap.size) o (by first | (simp; done) | assumption | (simp; omega))
  have zz3_0 : w.heap.size < w3.heap.size := zz hb3 (by first | (simp; done) | assumption | (simp; omega))
  have hc3_1 := fun o => (bcell hb3).1 (w.heap.size + 1) o (by first | (simp; done) | assumption | (simp; omega))
  have hf3_1 := fun o => (bcell hb3).2 (w.heap.size + 1) o (by first | (simp; done) | assumption | (simp; omega))
  have zz3_1 : w.heap.size + 1 < w3.heap.size := zz hb3 (by first | (simp; done) | assumption | (simp; omega))
  have hc3_2 := fun o => (bcell hb3).1 (w.heap.size + 1 + 1) o (by first | (simp; done) | assumption | (simp; omega))
  have hf3_2 := fun o => (bcell hb3).2 (w.heap.size + 1 + 1) o (by first | (simp; done) | assumption | (simp; omega))
  have zz3_2 : w.heap.size + 1 + 1 < w3.heap.size := zz hb3 (by first | (simp; done) | assumption | (simp; omega))
  go_wp2_with fail
  refine (HO.out _ _).mono ?_
  rintro e w4 ⟨rfl, hb4⟩
  have B4 : Below w.heap.size w w4 := (by repeat (with_reducible (first | exact Below.refl _ _ | assumption | apply ba | apply bd | apply bdr | (refine bs ?_ (by first | assumption | (simp; done) | (simp; omega))) | (refine bt ?_ (by assumption)))))
  have hc4_0 := fun o => (bcell hb4).1 (w.heap.size) o (by first | (simp; done) | assumption | (simp; omega))
  have hf4_0 := fun o => (bcell hb4).2 (w.heap.size) o (by first | (simp; done) | assumption | (simp; omega))
  have zz4_0 : w.heap.size < w4.heap.size := zz hb4 (by first | (simp; done) | assumption | (simp; omega))
  have hc4_1 := fun o => (bcell hb4).1 (w.heap.size + 1) o (by first | (simp; done) | assumption | (simp; omega))
  have hf4_1 := fun o => (bcell hb4).2 (w.heap.size + 1) o (by first | (simp; done) | assumption | (simp; omega))
  have zz4_1 : w.heap.size + 1 < w4.heap.size := zz hb4 (by first | (simp; done) | assumption | (simp; omega))
  have hc4_2 := fun o => (bcell hb4).1 (w.heap.size + 1 + 1) o (by first | (simp; done) | assumption | (simp; omega))
  have hf4_2 := fun o => (bcell hb4).2 (w.heap.size + 1 + 1) o (by first | (simp; done) | assumption | (simp; omega))
  have zz4_2 : w.heap.size + 1 + 1 < w4.heap.size := zz hb4 (by first | (simp; done) | assumption | (simp; omega))
  have hc4_3 := fun o => (bcell hb4).1 (w3.heap.size) o (by first | (simp; done) | assumption | (simp; omega))
  have hf4_3 := fun o => (bcell hb4).2 (w3.heap.size) o (by first | (simp; done) | assumption | (simp; omega))
  have zz4_3 : w3.heap.size < w4.heap.size := zz hb4 (by first | (simp; done) | assumption | (simp; omega))
  go_wp2
  exact bodyPost_ret (v := .agg #[.int .i64 (ri : Nat), .string rn, .int .i64 (ro : Nat)]) (by simp [results, Tryd.results21, go_sem, *] <;> first | rfl | omega) rfl ⟨rfl, (by repeat (with_reducible (first | exact Below.refl _ _ | assumption | apply ba | apply bd | apply bdr | (refine bs ?_ (by first | assumption | (simp; done) | (simp; omega))) | (refine bt ?_ (by assumption)))))⟩
theorem tw0_ttt_tff (xi xo yi yo ki ri ro : Nat) (xn yn kn rn : ByteArray) (HX : Hid (∀ w1 : World, Calls Tryd.prog 37 #[.agg #[.int .i64 (xi : Nat), .string xn, .int .i64 (xo : Nat)]] w1 fun e w' => e = .returned (.tuple #[.bool true, .bool true, .bool true]) ∧ Below w1.heap.size w1 w')) (HY : Hid (∀ w1 : World, Calls Tryd.prog 37 #[.agg #[.int .i64 (yi : Nat), .string yn, .int .i64 (yo : Nat)]] w1 fun e w' => e = .returned (.tuple #[.bool true, .bool false, .bool false]) ∧ Below w1.heap.size w1 w')) (HL : Hid (∀ w1 : World, Calls Tryd.prog 48 #[.agg #[.int .i64 (xi : Nat), .string xn, .int .i64 (xo : Nat)], .agg #[.int .i64 (yi : Nat), .string yn, .int .i64 (yo : Nat)]] w1 fun e w' => (∃ o : Nat, e = .returned (.agg #[.int .i64 (ki : Nat), .string kn, .int .i64 (o : Nat)])) ∧ Below w1.heap.size w1 w')) (HO : Hid (∀ (o : Nat) (w1 : World), Calls Tryd.prog 49 #[.agg #[.int .i64 (ki : Nat), .string kn, .int .i64 (o : Nat)], .bool true, .bool true, .bool true] w1 fun e w' => e = .returned (.agg #[.int .i64 (ri : Nat), .string rn, .int .i64 (ro : Nat)]) ∧ Below w1.heap.size w1 w')) (w : World) :
    Calls Tryd.prog 21 #[.int .i64 0, .agg #[.int .i64 (xi : Nat), .string xn, .int .i64 (xo : Nat)], .agg #[.int .i64 (yi : Nat), .string yn, .int .i64 (yo : Nat)]] w fun e w' => e = .returned (.agg #[.int .i64 (ri : Nat), .string rn, .int .i64 (ro : Nat)]) ∧ Below w.heap.size w w' := by
  go_enter Tryd.func21, Tryd.ntmps21
  go_wp2_with fail
  refine (HX.out _).mono ?_
  rintro e w1 ⟨rfl, hb1⟩
  have B1 : Below w.heap.size w w1 := (by repeat (with_reducible (first | exact Below.refl _ _ | assumption | apply ba | apply bd | apply bdr | (refine bs ?_ (by first | assumption | (simp; done) | (simp; omega))) | (refine bt ?_ (by assumption)))))
  have hc1_0 := fun o => (bcell hb1).1 (w.heap.size) o (by first | (simp; done) | assumption | (simp; omega))
  have hf1_0 := fun o => (bcell hb1).2 (w.heap.size) o (by first | (simp; done) | assumption | (simp; omega))
  have zz1_0 : w.heap.size < w1.heap.size := zz hb1 (by first | (simp; done) | assumption | (simp; omega))
  have hc1_1 := fun o => (bcell hb1).1 (w.heap.size + 1) o (by first | (simp; done) | assumption | (simp; omega))
  have hf1_1 := fun o => (bcell hb1).2 (w.heap.size + 1) o (by first | (simp; done) | assumption | (simp; omega))
  have zz1_1 : w.heap.size + 1 < w1.heap.size := zz hb1 (by first | (simp; done) | assumption | (simp; omega))
  have hc1_2 := fun o => (bcell hb1).1 (w.heap.size + 1 + 1) o (by first | (simp; done) | assumption | (simp; omega))
  have hf1_2 := fun o => (bcell hb1).2 (w.heap.size + 1 + 1) o (by first | (simp; done) | assumption | (simp; omega))
  have zz1_2 : w.heap.size + 1 + 1 < w1.heap.size := zz hb1 (by first | (simp; done) | assumption | (simp; omega))
  go_wp2_with fail
  refine (HY.out _).mono ?_
  rintro e w2 ⟨rfl, hb2⟩
  have B2 : Below w.heap.size w w2 := (by repeat (with_reducible (first | exact Below.refl _ _ | assumption | apply ba | apply bd | apply bdr | (refine bs ?_ (by first | assumption | (simp; done) | (simp; omega))) | (refine bt ?_ (by assumption)))))
  have hc2_0 := fun o => (bcell hb2).1 (w.heap.size) o (by first | (simp; done) | assumption | (simp; omega))
  have hf2_0 := fun o => (bcell hb2).2 (w.heap.size) o (by first | (simp; done) | assumption | (simp; omega))
  have zz2_0 : w.heap.size < w2.heap.size := zz hb2 (by first | (simp; done) | assumption | (simp; omega))
  have hc2_1 := fun o => (bcell hb2).1 (w.heap.size + 1) o (by first | (simp; done) | assumption | (simp; omega))
  have hf2_1 := fun o => (bcell hb2).2 (w.heap.size + 1) o (by first | (simp; done) | assumption | (simp; omega))
  have zz2_1 : w.heap.size + 1 < w2.heap.size := zz hb2 (by first | (simp; done) | assumption | (simp; omega))
  have hc2_2 := fun o => (bcell hb2).1 (w.heap.size + 1 + 1) o (by first | (simp; done) | assumption | (simp; omega))
  have hf2_2 := fun o => (bcell hb2).2 (w.heap.size + 1 + 1) o (by first | (simp; done) | assumption | (simp; omega))
  have zz2_2 : w.heap.size + 1 + 1 < w2.heap.size := zz hb2 (by first | (simp; done) | assumption | (simp; omega))
  go_wp2_with fail
  refine (HL.out _).mono ?_
  rintro e w3 ⟨⟨ko, rfl⟩, hb3⟩
  have B3 : Below w.heap.size w w3 := (by repeat (with_reducible (first | exact Below.refl _ _ | assumption | apply ba | apply bd | apply bdr | (refine bs ?_ (by first | assumption | (simp; done) | (simp; omega))) | (refine bt ?_ (by assumption)))))
  have hc3_0 := fun o => (bcell hb3).1 (w.heap.size) o (by first | (simp; done) | assumption | (simp; omega))
  have hf3_0 := fun o => (bcell hb3).2 (w.heap.size) o (by first | (simp; done) | assumption | (simp; omega))
  have zz3_0 : w.heap.size < w3.heap.size := zz hb3 (by first | (simp; done) | assumption | (simp; omega))
  have hc3_1 := fun o => (bcell hb3).1 (w.heap.size + 1) o (by first | (simp; done) | assumption | (simp; omega))
  have hf3_1 := fun o => (bcell hb3).2 (w.heap.size + 1) o (by first | (simp; done) | assumption | (simp; omega))
  have zz3_1 : w.heap.size + 1 < w3.heap.size := zz hb3 (by first | (simp; done) | assumption | (simp; omega))
  have hc3_2 := fun o => (bcell hb3).1 (w.heap.size + 1 + 1) o (by first | (simp; done) | assumption | (simp; omega))
  have hf3_2 := fun o => (bcell hb3).2 (w.heap.size + 1 + 1) o (by first | (simp; done) | assumption | (simp; omega))
  have zz3_2 : w.heap.size + 1 + 1 < w3.heap.size := zz hb3 (by first | (simp; done) | assumption | (simp; omega))
  go_wp2_with fail
  refine (HO.out _ _).mono ?_
  rintro e w4 ⟨rfl, hb4⟩
  have B4 : Below w.heap.size w w4 := (by repeat (with_reducible (first | exact Below.refl _ _ | assumption | apply ba | apply bd | apply bdr | (refine bs ?_ (by first | assumption | (simp; done) | (simp; omega))) | (refine bt ?_ (by assumption)))))
  have hc4_0 := fun o => (bcell hb4).1 (w.heap.size) o (by first | (simp; done) | assumption | (simp; omega))
  have hf4_0 := fun o => (bcell hb4).2 (w.heap.size) o (by first | (simp; done) | assumption | (simp; omega))
  have zz4_0 : w.heap.size < w4.heap.size := zz hb4 (by first | (simp; done) | assumption | (simp; omega))
  have hc4_1 := fun o => (bcell hb4).1 (w.heap.size + 1) o (by first | (simp; done) | assumption | (simp; omega))
  have hf4_1 := fun o => (bcell hb4).2 (w.heap.size + 1) o (by first | (simp; done) | assumption | (simp; omega))
  have zz4_1 : w.heap.size + 1 < w4.heap.size := zz hb4 (by first | (simp; done) | assumption | (simp; omega))
  have hc4_2 := fun o => (bcell hb4).1 (w.heap.size + 1 + 1) o (by first | (simp; done) | assumption | (simp; omega))
  have hf4_2 := fun o => (bcell hb4).2 (w.heap.size + 1 + 1) o (by first | (simp; done) | assumption | (simp; omega))
  have zz4_2 : w.heap.size + 1 + 1 < w4.heap.size := zz hb4 (by first | (simp; done) | assumption | (simp; omega))
  have hc4_3 := fun o => (bcell hb4).1 (w3.heap.size) o (by first | (simp; done) | assumption | (simp; omega))
  have hf4_3 := fun o => (bcell hb4).2 (w3.heap.size) o (by first | (simp; done) | assumption | (simp; omega))
  have zz4_3 : w3.heap.size < w4.heap.size := zz hb4 (by first | (simp; done) | assumption | (simp; omega))
  go_wp2
  exact bodyPost_ret (v := .agg #[.int .i64 (ri : Nat), .string rn, .int .i64 (ro : Nat)]) (by simp [results, Tryd.results21, go_sem, *] <;> first | rfl | omega) rfl ⟨rfl, (by repeat (with_reducible (first | exact Below.refl _ _ | assumption | apply ba | apply bd | apply bdr | (refine bs ?_ (by first | assumption | (simp; done) | (simp; omega))) | (refine bt ?_ (by assumption)))))⟩
theorem tw0_ttt_ftf (xi xo yi yo ki ri ro : Nat) (xn yn kn rn : ByteArray) (HX : Hid (∀ w1 : World, Calls Tryd.prog 37 #[.agg #[.int .i64 (xi : Nat), .string xn, .int .i64 (xo : Nat)]] w1 fun e w' => e = .returned (.tuple #[.bool true, .bool true, .bool true]) ∧ Below w1.heap.size w1 w')) (HY : Hid (∀ w1 : World, Calls Tryd.prog 37 #[.agg #[.int .i64 (yi : Nat), .string yn, .int .i64 (yo : Nat)]] w1 fun e w' => e = .returned (.tuple #[.bool false, .bool true, .bool false]) ∧ Below w1.heap.size w1 w')) (HL : Hid (∀ w1 : World, Calls Tryd.prog 48 #[.agg #[.int .i64 (xi : Nat), .string xn, .int .i64 (xo : Nat)], .agg #[.int .i64 (yi : Nat), .string yn, .int .i64 (yo : Nat)]] w1 fun e w' => (∃ o : Nat, e = .returned (.agg #[.int .i64 (ki : Nat), .string kn, .int .i64 (o : Nat)])) ∧ Below w1.heap.size w1 w')) (HO : Hid (∀ (o : Nat) (w1 : World), Calls Tryd.prog 49 #[.agg #[.int .i64 (ki : Nat), .string kn, .int .i64 (o : Nat)], .bool true, .bool true, .bool true] w1 fun e w' => e = .returned (.agg #[.int .i64 (ri : Nat), .string rn, .int .i64 (ro : Nat)]) ∧ Below w1.heap.size w1 w')) (w : World) :
    Calls Tryd.prog 21 #[.int .i64 0, .agg #[.int .i64 (xi : Nat), .string xn, .int .i64 (xo : Nat)], .agg #[.int .i64 (yi : Nat), .string yn, .int .i64 (yo : Nat)]] w fun e w' => e = .returned (.agg #[.int .i64 (ri : Nat), .string rn, .int .i64 (ro : Nat)]) ∧ Below w.heap.size w w' := by
  go_enter Tryd.func21, Tryd.ntmps21
  go_wp2_with fail
  refine (HX.out _).mono ?_
  rintro e w1 ⟨rfl, hb1⟩
  have B1 : Below w.heap.size w w1 := (by repeat (with_reducible (first | exact Below.refl _ _ | assumption | apply ba | apply bd | apply bdr | (refine bs ?_ (by first | assumption | (simp; done) | (simp; omega))) | (refine bt ?_ (by assumption)))))
  have hc1_0 := fun o => (bcell hb1).1 (w.heap.size) o (by first | (simp; done) | assumption | (simp; omega))
  have hf1_0 := fun o => (bcell hb1).2 (w.heap.size) o (by first | (simp; done) | assumption | (simp; omega))
  have zz1_0 : w.heap.size < w1.heap.size := zz hb1 (by first | (simp; done) | assumption | (simp; omega))
  have hc1_1 := fun o => (bcell hb1).1 (w.heap.size + 1) o (by first | (simp; done) | assumption | (simp; omega))
  have hf1_1 := fun o => (bcell hb1).2 (w.heap.size + 1) o (by first | (simp; done) | assumption | (simp; omega))
  have zz1_1 : w.heap.size + 1 < w1.heap.size := zz hb1 (by first | (simp; done) | assumption | (simp; omega))
  have hc1_2 := fun o => (bcell hb1).1 (w.heap.size + 1 + 1) o (by first | (simp; done) | assumption | (simp; omega))
  have hf1_2 := fun o => (bcell hb1).2 (w.heap.size + 1 + 1) o (by first | (simp; done) | assumption | (simp; omega))
  have zz1_2 : w.heap.size + 1 + 1 < w1.heap.size := zz hb1 (by first | (simp; done) | assumption | (simp; omega))
  go_wp2_with fail
  refine (HY.out _).mono ?_
  rintro e w2 ⟨rfl, hb2⟩
  have B2 : Below w.heap.size w w2 := (by repeat (with_reducible (first | exact Below.refl _ _ | assumption | apply ba | apply bd | apply bdr | (refine bs ?_ (by first | assumption | (simp; done) | (simp; omega))) | (refine bt ?_ (by assumption)))))
  have hc2_0 := fun o => (bcell hb2).1 (w.heap.size) o (by first | (simp; done) | assumption | (simp; omega))
  have hf2_0 := fun o => (bcell hb2).2 (w.heap.size) o (by first | (simp; done) | assumption | (simp; omega))
  have zz2_0 : w.heap.size < w2.heap.size := zz hb2 (by first | (simp; done) | assumption | (simp; omega))
  have hc2_1 := fun o => (bcell hb2).1 (w.heap.size + 1) o (by first | (simp; done) | assumption | (simp; omega))
  have hf2_1 := fun o => (bcell hb2).2 (w.heap.size + 1) o (by first | (simp; done) | assumption | (simp; omega))
  have zz2_1 : w.heap.size + 1 < w2.heap.size := zz hb2 (by first | (simp; done) | assumption | (simp; omega))
  have hc2_2 := fun o => (bcell hb2).1 (w.heap.size + 1 + 1) o (by first | (simp; done) | assumption | (simp; omega))
  have hf2_2 := fun o => (bcell hb2).2 (w.heap.size + 1 + 1) o (by first | (simp; done) | assumption | (simp; omega))
  have zz2_2 : w.heap.size + 1 + 1 < w2.heap.size := zz hb2 (by first | (simp; done) | assumption | (simp; omega))
  go_wp2_with fail
  refine (HL.out _).mono ?_
  rintro e w3 ⟨⟨ko, rfl⟩, hb3⟩
  have B3 : Below w.heap.size w w3 := (by repeat (with_reducible (first | exact Below.refl _ _ | assumption | apply ba | apply bd | apply bdr | (refine bs ?_ (by first | assumption | (simp; done) | (simp; omega))) | (refine bt ?_ (by assumption)))))
  have hc3_0 := fun o => (bcell hb3).1 (w.heap.size) o (by first | (simp; done) | assumption | (simp; omega))
  have hf3_0 := fun o => (bcell hb3).2 (w.heap.size) o (by first | (simp; done) | assumption | (simp; omega))
  have zz3_0 : w.heap.size < w3.heap.size := zz hb3 (by first | (simp; done) | assumption | (simp; omega))
  have hc3_1 := fun o => (bcell hb3).1 (w.heap.size + 1) o (by first | (simp; done) | assumption | (simp; omega))
  have hf3_1 := fun o => (bcell hb3).2 (w.heap.size + 1) o (by first | (simp; done) | assumption | (simp; omega))
  have zz3_1 : w.heap.size + 1 < w3.heap.size := zz hb3 (by first | (simp; done) | assumption | (simp; omega))
  have hc3_2 := fun o => (bcell hb3).1 (w.heap.size + 1 + 1) o (by first | (simp; done) | assumption | (simp; omega))
  have hf3_2 := fun o => (bcell hb3).2 (w.heap.size + 1 + 1) o (by first | (simp; done) | assumption | (simp; omega))
  have zz3_2 : w.heap.size + 1 + 1 < w3.heap.size := zz hb3 (by first | (simp; done) | assumption | (simp; omega))
  go_wp2_with fail
  refine (HO.out _ _).mono ?_
  rintro e w4 ⟨rfl, hb4⟩
  have B4 : Below w.heap.size w w4 := (by repeat (with_reducible (first | exact Below.refl _ _ | assumption | apply ba | apply bd | apply bdr | (refine bs ?_ (by first | assumption | (simp; done) | (simp; omega))) | (refine bt ?_ (by assumption)))))
  have hc4_0 := fun o => (bcell hb4).1 (w.heap.size) o (by first | (simp; done) | assumption | (simp; omega))
  have hf4_0 := fun o => (bcell hb4).2 (w.heap.size) o (by first | (simp; done) | assumption | (simp; omega))
  have zz4_0 : w.heap.size < w4.heap.size := zz hb4 (by first | (simp; done) | assumption | (simp; omega))
  have hc4_1 := fun o => (bcell hb4).1 (w.heap.size + 1) o (by first | (simp; done) | assumption | (simp; omega))
  have hf4_1 := fun o => (bcell hb4).2 (w.heap.size + 1) o (by first | (simp; done) | assumption | (simp; omega))
  have zz4_1 : w.heap.size + 1 < w4.heap.size := zz hb4 (by first | (simp; done) | assumption | (simp; omega))
  have hc4_2 := fun o => (bcell hb4).1 (w.heap.size + 1 + 1) o (by first | (simp; done) | assumption | (simp; omega))
  have hf4_2 := fun o => (bcell hb4).2 (w.heap.size + 1 + 1) o (by first | (simp; done) | assumption | (simp; omega))
  have zz4_2 : w.heap.size + 1 + 1 < w4.heap.size := zz hb4 (by first | (simp; done) | assumption | (simp; omega))
  have hc4_3 := fun o => (bcell hb4).1 (w3.heap.size) o (by first | (simp; done) | assumption | (simp; omega))
  have hf4_3 := fun o => (bcell hb4).2 (w3.heap.size) o (by first | (simp; done) | assumption | (simp; omega))
  have zz4_3 : w3.heap.size < w4.heap.size := zz hb4 (by first | (simp; done) | assumption | (simp; omega))
  go_wp2
  exact bodyPost_ret (v := .agg #[.int .i64 (ri : Nat), .string rn, .int .i64 (ro : Nat)]) (by simp [results, Tryd.results21, go_sem, *] <;> first | rfl | omega) rfl ⟨rfl, (by repeat (with_reducible (first | exact Below.refl _ _ | assumption | apply ba | apply bd | apply bdr | (refine bs ?_ (by first | assumption | (simp; done) | (simp; omega))) | (refine bt ?_ (by assumption)))))⟩
theorem tw0_ttt_ttf (xi xo yi yo ki ri ro : Nat) (xn yn kn rn : ByteArray) (HX : Hid (∀ w1 : World, Calls Tryd.prog 37 #[.agg #[.int .i64 (xi : Nat), .string xn, .int .i64 (xo : Nat)]] w1 fun e w' => e = .returned (.tuple #[.bool true, .bool true, .bool true]) ∧ Below w1.heap.size w1 w')) (HY : Hid (∀ w1 : World, Calls Tryd.prog 37 #[.agg #[.int .i64 (yi : Nat), .string yn, .int .i64 (yo : Nat)]] w1 fun e w' => e = .returned (.tuple #[.bool true, .bool true, .bool false]) ∧ Below w1.heap.size w1 w')) (HL : Hid (∀ w1 : World, Calls Tryd.prog 48 #[.agg #[.int .i64 (xi : Nat), .string xn, .int .i64 (xo : Nat)], .agg #[.int .i64 (yi : Nat), .string yn, .int .i64 (yo : Nat)]] w1 fun e w' => (∃ o : Nat, e = .returned (.agg #[.int .i64 (ki : Nat), .string kn, .int .i64 (o : Nat)])) ∧ Below w1.heap.size w1 w')) (HO : Hid (∀ (o : Nat) (w1 : World), Calls Tryd.prog 49 #[.agg #[.int .i64 (ki : Nat), .string kn, .int .i64 (o : Nat)], .bool true, .bool true, .bool true] w1 fun e w' => e = .returned (.agg #[.int .i64 (ri : Nat), .string rn, .int .i64 (ro : Nat)]) ∧ Below w1.heap.size w1 w')) (w : World) :
    Calls Tryd.prog 21 #[.int .i64 0, .agg #[.int .i64 (xi : Nat), .string xn, .int .i64 (xo : Nat)], .agg #[.int .i64 (yi : Nat), .string yn, .int .i64 (yo : Nat)]] w fun e w' => e = .returned (.agg #[.int .i64 (ri : Nat), .string rn, .int .i64 (ro : Nat)]) ∧ Below w.heap.size w w' := by
  go_enter Tryd.func21, Tryd.ntmps21
  go_wp2_with fail
  refine (HX.out _).mono ?_
  rintro e w1 ⟨rfl, hb1⟩
  have B1 : Below w.heap.size w w1 := (by repeat (with_reducible (first | exact Below.refl _ _ | assumption | apply ba | apply bd | apply bdr | (refine bs ?_ (by first | assumption | (simp; done) | (simp; omega))) | (refine bt ?_ (by assumption)))))
  have hc1_0 := fun o => (bcell hb1).1 (w.heap.size) o (by first | (simp; done) | assumption | (simp; omega))
  have hf1_0 := fun o => (bcell hb1).2 (w.heap.size) o (by first | (simp; done) | assumption | (simp; omega))
  have zz1_0 : w.heap.size < w1.heap.size := zz hb1 (by first | (simp; done) | assumption | (simp; omega))
  have hc1_1 := fun o => (bcell hb1).1 (w.heap.size + 1) o (by first | (simp; done) | assumption | (simp; omega))
  have hf1_1 := fun o => (bcell hb1).2 (w.heap.size + 1) o (by first | (simp; done) | assumption | (simp; omega))
  have zz1_1 : w.heap.size + 1 < w1.heap.size := zz hb1 (by first | (simp; done) | assumption | (simp; omega))
  have hc1_2 := fun o => (bcell hb1).1 (w.heap.size + 1 + 1) o (by first | (simp; done) | assumption | (simp; omega))
  have hf1_2 := fun o => (bcell hb1).2 (w.heap.size + 1 + 1) o (by first | (simp; done) | assumption | (simp; omega))
  have zz1_2 : w.heap.size + 1 + 1 < w1.heap.size := zz hb1 (by first | (simp; done) | assumption | (simp; omega))
  go_wp2_with fail
  refine (HY.out _).mono ?_
  rintro e w2 ⟨rfl, hb2⟩
  have B2 : Below w.heap.size w w2 := (by repeat (with_reducible (first | exact Below.refl _ _ | assumption | apply ba | apply bd | apply bdr | (refine bs ?_ (by first | assumption | (simp; done) | (simp; omega))) | (refine bt ?_ (by assumption)))))
  have hc2_0 := fun o => (bcell hb2).1 (w.heap.size) o (by first | (simp; done) | assumption | (simp; omega))
  have hf2_0 := fun o => (bcell hb2).2 (w.heap.size) o (by first | (simp; done) | assumption | (simp; omega))
  have zz2_0 : w.heap.size < w2.heap.size := zz hb2 (by first | (simp; done) | assumption | (simp; omega))
  have hc2_1 := fun o => (bcell hb2).1 (w.heap.size + 1) o (by first | (simp; done) | assumption | (simp; omega))
  have hf2_1 := fun o => (bcell hb2).2 (w.heap.size + 1) o (by first | (simp; done) | assumption | (simp; omega))
  have zz2_1 : w.heap.size + 1 < w2.heap.size := zz hb2 (by first | (simp; done) | assumption | (simp; omega))
  have hc2_2 := fun o => (bcell hb2).1 (w.heap.size + 1 + 1) o (by first | (simp; done) | assumption | (simp; omega))
  have hf2_2 := fun o => (bcell hb2).2 (w.heap.size + 1 + 1) o (by first | (simp; done) | assumption | (simp; omega))
  have zz2_2 : w.heap.size + 1 + 1 < w2.heap.size := zz hb2 (by first | (simp; done) | assumption | (simp; omega))
  go_wp2_with fail
  refine (HL.out _).mono ?_
  rintro e w3 ⟨⟨ko, rfl⟩, hb3⟩
  have B3 : Below w.heap.size w w3 := (by repeat (with_reducible (first | exact Below.refl _ _ | assumption | apply ba | apply bd | apply bdr | (refine bs ?_ (by first | assumption | (simp; done) | (simp; omega))) | (refine bt ?_ (by assumption)))))
  have hc3_0 := fun o => (bcell hb3).1 (w.heap.size) o (by first | (simp; done) | assumption | (simp; omega))
  have hf3_0 := fun o => (bcell hb3).2 (w.heap.size) o (by first | (simp; done) | assumption | (simp; omega))
  have zz3_0 : w.heap.size < w3.heap.size := zz hb3 (by first | (simp; done) | assumption | (simp; omega))
  have hc3_1 := fun o => (bcell hb3).1 (w.heap.size + 1) o (by first | (simp; done) | assumption | (simp; omega))
  have hf3_1 := fun o => (bcell hb3).2 (w.heap.size + 1) o (by first | (simp; done) | assumption | (simp; omega))
  have zz3_1 : w.heap.size + 1 < w3.heap.size := zz hb3 (by first | (simp; done) | assumption | (simp; omega))
  have hc3_2 := fun o => (bcell hb3).1 (w.heap.size + 1 + 1) o (by first | (simp; done) | assumption | (simp; omega))
  have hf3_2 := fun o => (bcell hb3).2 (w.heap.size + 1 + 1) o (by first | (simp; done) | assumption | (simp; omega))
  have zz3_2 : w.heap.size + 1 + 1 < w3.heap.size := zz hb3 (by first | (simp; done) | assumption | (simp; omega))
  go_wp2_with fail
  refine (HO.out _ _).mono ?_
  rintro e w4 ⟨rfl, hb4⟩
  have B4 : Below w.heap.size w w4 := (by repeat (with_reducible (first | exact Below.refl _ _ | assumption | apply ba | apply bd | apply bdr | (refine bs ?_ (by first | assumption | (simp; done) | (simp; omega))) | (refine bt ?_ (by assumption)))))
  have hc4_0 := fun o => (bcell hb4).1 (w.heap.size) o (by first | (simp; done) | assumption | (simp; omega))
  have hf4_0 := fun o => (bcell hb4).2 (w.heap.size) o (by first | (simp; done) | assumption | (simp; omega))
  have zz4_0 : w.heap.size < w4.heap.size := zz hb4 (by first | (simp; done) | assumption | (simp; omega))
  have hc4_1 := fun o => (bcell hb4).1 (w.heap.size + 1) o (by first | (simp; done) | assumption | (simp; omega))
  have hf4_1 := fun o => (bcell hb4).2 (w.heap.size + 1) o (by first | (simp; done) | assumption | (simp; omega))
  have zz4_1 : w.heap.size + 1 < w4.heap.size := zz hb4 (by first | (simp; done) | assumption | (simp; omega))
  have hc4_2 := fun o => (bcell hb4).1 (w.heap.size + 1 + 1) o (by first | (simp; done) | assumption | (simp; omega))
  have hf4_2 := fun o => (bcell hb4).2 (w.heap.size + 1 + 1) o (by first | (simp; done) | assumption | (simp; omega))
  have zz4_2 : w.heap.size + 1 + 1 < w4.heap.size := zz hb4 (by first | (simp; done) | assumption | (simp; omega))
  have hc4_3 := fun o => (bcell hb4).1 (w3.heap.size) o (by first | (simp; done) | assumption | (simp; omega))
  have hf4_3 := fun o => (bcell hb4).2 (w3.heap.size) o (by first | (simp; done) | assumption | (simp; omega))
  have zz4_3 : w3.heap.size < w4.heap.size := zz hb4 (by first | (simp; done) | assumption | (simp; omega))
  go_wp2
  exact bodyPost_ret (v := .agg #[.int .i64 (ri : Nat), .string rn, .int .i64 (ro : Nat)]) (by simp [results, Tryd.results21, go_sem, *] <;> first | rfl | omega) rfl ⟨rfl, (by repeat (with_reducible (first | exact Below.refl _ _ | assumption | apply ba | apply bd | apply bdr | (refine bs ?_ (by first | assumption | (simp; done) | (simp; omega))) | (refine bt ?_ (by assumption)))))⟩
theorem tw0_ttt_ftt (xi xo yi yo ki ri ro : Nat) (xn yn kn rn : ByteArray) (HX : Hid (∀ w1 : World, Calls Tryd.prog 37 #[.agg #[.int .i64 (xi : Nat), .string xn, .int .i64 (xo : Nat)]] w1 fun e w' => e = .returned (.tuple #[.bool true, .bool true, .bool true]) ∧ Below w1.heap.size w1 w')) (HY : Hid (∀ w1 : World, Calls Tryd.prog 37 #[.agg #[.int .i64 (yi : Nat), .string yn, .int .i64 (yo : Nat)]] w1 fun e w' => e = .returned (.tuple #[.bool false, .bool true, .bool true]) ∧ Below w1.heap.size w1 w')) (HL : Hid (∀ w1 : World, Calls Tryd.prog 48 #[.agg #[.int .i64 (xi : Nat), .string xn, .int .i64 (xo : Nat)], .agg #[.int .i64 (yi : Nat), .string yn, .int .i64 (yo : Nat)]] w1 fun e w' => (∃ o : Nat, e = .returned (.agg #[.int .i64 (ki : Nat), .string kn, .int .i64 (o : Nat)])) ∧ Below w1.heap.size w1 w')) (HO : Hid (∀ (o : Nat) (w1 : World), Calls Tryd.prog 49 #[.agg #[.int .i64 (ki : Nat), .string kn, .int .i64 (o : Nat)], .bool true, .bool true, .bool true] w1 fun e w' => e = .returned (.agg #[.int .i64 (ri : Nat), .string rn, .int .i64 (ro : Nat)]) ∧ Below w1.heap.size w1 w')) (w : World) :
    Calls Tryd.prog 21 #[.int .i64 0, .agg #[.int .i64 (xi : Nat), .string xn, .int .i64 (xo : Nat)], .agg #[.int .i64 (yi : Nat), .string yn, .int .i64 (yo : Nat)]] w fun e w' => e = .returned (.agg #[.int .i64 (ri : Nat), .string rn, .int .i64 (ro : Nat)]) ∧ Below w.heap.size w w' := by
  go_enter Tryd.func21, Tryd.ntmps21
  go_wp2_with fail
  refine (HX.out _).mono ?_
  rintro e w1 ⟨rfl, hb1⟩
  have B1 : Below w.heap.size w w1 := (by repeat (with_reducible (first | exact Below.refl _ _ | assumption | apply ba | apply bd | apply bdr | (refine bs ?_ (by first | assumption | (simp; done) | (simp; omega))) | (refine bt ?_ (by assumption)))))
  have hc1_0 := fun o => (bcell hb1).1 (w.heap.size) o (by first | (simp; done) | assumption | (simp; omega))
  have hf1_0 := fun o => (bcell hb1).2 (w.heap.size) o (by first | (simp; done) | assumption | (simp; omega))
  have zz1_0 : w.heap.size < w1.heap.size := zz hb1 (by first | (simp; done) | assumption | (simp; omega))
  have hc1_1 := fun o => (bcell hb1).1 (w.heap.size + 1) o (by first | (simp; done) | assumption | (simp; omega))
  have hf1_1 := fun o => (bcell hb1).2 (w.heap.size + 1) o (by first | (simp; done) | assumption | (simp; omega))
  have zz1_1 : w.heap.size + 1 < w1.heap.size := zz hb1 (by first | (simp; done) | assumption | (simp; omega))
  have hc1_2 := fun o => (bcell hb1).1 (w.heap.size + 1 + 1) o (by first | (simp; done) | assumption | (simp; omega))
  have hf1_2 := fun o => (bcell hb1).2 (w.heap.size + 1 + 1) o (by first | (simp; done) | assumption | (simp; omega))
  have zz1_2 : w.heap.size + 1 + 1 < w1.heap.size := zz hb1 (by first | (simp; done) | assumption | (simp; omega))
  go_wp2_with fail
  refine (HY.out _).mono ?_
  rintro e w2 ⟨rfl, hb2⟩
  have B2 : Below w.heap.size w w2 := (by repeat (with_reducible (first | exact Below.refl _ _ | assumption | apply ba | apply bd | apply bdr | (refine bs ?_ (by first | assumption | (simp; done) | (simp; omega))) | (refine bt ?_ (by assumption)))))
  have hc2_0 := fun o => (bcell hb2).1 (w.heap.size) o (by first | (simp; done) | assumption | (simp; omega))
  have hf2_0 := fun o => (bcell hb2).2 (w.heap.size) o (by first | (simp; done) | assumption | (simp; omega))
  have zz2_0 : w.heap.size < w2.heap.size := zz hb2 (by first | (simp; done) | assumption | (simp; omega))
  have hc2_1 := fun o => (bcell hb2).1 (w.heap.size + 1) o (by first | (simp; done) | assumption | (simp; omega))
  have hf2_1 := fun o => (bcell hb2).2 (w.heap.size + 1) o (by first | (simp; done) | assumption | (simp; omega))
  have zz2_1 : w.heap.size + 1 < w2.heap.size := zz hb2 (by first | (simp; done) | assumption | (simp; omega))
  have hc2_2 := fun o => (bcell hb2).1 (w.heap.size + 1 + 1) o (by first | (simp; done) | assumption | (simp; omega))
  have hf2_2 := fun o => (bcell hb2).2 (w.heap.size + 1 + 1) o (by first | (simp; done) | assumption | (simp; omega))
  have zz2_2 : w.heap.size + 1 + 1 < w2.heap.size := zz hb2 (by first | (simp; done) | assumption | (simp; omega))
  go_wp2_with fail
  refine (HL.out _).mono ?_
  rintro e w3 ⟨⟨ko, rfl⟩, hb3⟩
  have B3 : Below w.heap.size w w3 := (by repeat (with_reducible (first | exact Below.refl _ _ | assumption | apply ba | apply bd | apply bdr | (refine bs ?_ (by first | assumption | (simp; done) | (simp; omega))) | (refine bt ?_ (by assumption)))))
  have hc3_0 := fun o => (bcell hb3).1 (w.heap.size) o (by first | (simp; done) | assumption | (simp; omega))
  have hf3_0 := fun o => (bcell hb3).2 (w.heap.size) o (by first | (simp; done) | assumption | (simp; omega))
  have zz3_0 : w.heap.size < w3.heap.size := zz hb3 (by first | (simp; done) | assumption | (simp; omega))
  have hc3_1 := fun o => (bcell hb3).1 (w.heap.size + 1) o (by first | (simp; done) | assumption | (simp; omega))
  have hf3_1 := fun o => (bcell hb3).2 (w.heap.size + 1) o (by first | (simp; done) | assumption | (simp; omega))
  have zz3_1 : w.heap.size + 1 < w3.heap.size := zz hb3 (by first | (simp; done) | assumption | (simp; omega))
  have hc3_2 := fun o => (bcell hb3).1 (w.heap.size + 1 + 1) o (by first | (simp; done) | assumption | (simp; omega))
  have hf3_2 := fun o => (bcell hb3).2 (w.heap.size + 1 + 1) o (by first | (simp; done) | assumption | (simp; omega))
  have zz3_2 : w.heap.size + 1 + 1 < w3.heap.size := zz hb3 (by first | (simp; done) | assumption | (simp; omega))
  go_wp2_with fail
  refine (HO.out _ _).mono ?_
  rintro e w4 ⟨rfl, hb4⟩
  have B4 : Below w.heap.size w w4 := (by repeat (with_reducible (first | exact Below.refl _ _ | assumption | apply ba | apply bd | apply bdr | (refine bs ?_ (by first | assumption | (simp; done) | (simp; omega))) | (refine bt ?_ (by assumption)))))
  have hc4_0 := fun o => (bcell hb4).1 (w.heap.size) o (by first | (simp; done) | assumption | (simp; omega))
  have hf4_0 := fun o => (bcell hb4).2 (w.heap.size) o (by first | (simp; done) | assumption | (simp; omega))
  have zz4_0 : w.heap.size < w4.heap.size := zz hb4 (by first | (simp; done) | assumption | (simp; omega))
  have hc4_1 := fun o => (bcell hb4).1 (w.heap.size + 1) o (by first | (simp; done) | assumption | (simp; omega))
  have hf4_1 := fun o => (bcell hb4).2 (w.heap.size + 1) o (by first | (simp; done) | assumption | (simp; omega))
  have zz4_1 : w.heap.size + 1 < w4.heap.size := zz hb4 (by first | (simp; done) | assumption | (simp; omega))
  have hc4_2 := fun o => (bcell hb4).1 (w.heap.size + 1 + 1) o (by first | (simp; done) | assumption | (simp; omega))
  have hf4_2 := fun o => (bcell hb4).2 (w.heap.size + 1 + 1) o (by first | (simp; done) | assumption | (simp; omega))
  have zz4_2 : w.heap.size + 1 + 1 < w4.heap.size := zz hb4 (by first | (simp; done) | assumption | (simp; omega))
  have hc4_3 := fun o => (bcell hb4).1 (w3.heap.size) o (by first | (simp; done) | assumption | (simp; omega))
  have hf4_3 := fun o => (bcell hb4).2 (w3.heap.size) o (by first | (simp; done) | assumption | (simp; omega))
  have zz4_3 : w3.heap.size < w4.heap.size := zz hb4 (by first | (simp; done) | assumption | (simp; omega))
  go_wp2
  exact bodyPost_ret (v := .agg #[.int .i64 (ri : Nat), .string rn, .int .i64 (ro : Nat)]) (by simp [results, Tryd.results21, go_sem, *] <;> first | rfl | omega) rfl ⟨rfl, (by repeat (with_reducible (first | exact Below.refl _ _ | assumption | apply ba | apply bd | apply bdr | (refine bs ?_ (by first | assumption | (simp; done) | (simp; omega))) | (refine bt ?_ (by assumption)))))⟩
theorem tw0_ttt_ttt (xi xo yi yo ki ri ro : Nat) (xn yn kn rn : ByteArray) (HX : Hid (∀ w1 : World, Calls Tryd.prog 37 #[.agg #[.int .i64 (xi : Nat), .string xn, .int .i64 (xo : Nat)]] w1 fun e w' => e = .returned (.tuple #[.bool true, .bool true, .bool true]) ∧ Below w1.heap.size w1 w')) (HY : Hid (∀ w1 : World, Calls Tryd.prog 37 #[.agg #[.int .i64 (yi : Nat), .string yn, .int .i64 (yo : Nat)]] w1 fun e w' => e = .returned (.tuple #[.bool true, .bool true, .bool true]) ∧ Below w1.heap.size w1 w')) (HL : Hid (∀ w1 : World, Calls Tryd.prog 48 #[.agg #[.int .i64 (xi : Nat), .string xn, .int .i64 (xo : Nat)], .agg #[.int .i64 (yi : Nat), .string yn, .int .i64 (yo : Nat)]] w1 fun e w' => (∃ o : Nat, e = .returned (.agg #[.int .i64 (ki : Nat), .string kn, .int .i64 (o : Nat)])) ∧ Below w1.heap.size w1 w')) (HO : Hid (∀ (o : Nat) (w1 : World), Calls Tryd.prog 49 #[.agg #[.int .i64 (ki : Nat), .string kn, .int .i64 (o : Nat)], .bool true, .bool true, .bool true] w1 fun e w' => e = .returned (.agg #[.int .i64 (ri : Nat), .string rn, .int .i64 (ro : Nat)]) ∧ Below w1.heap.size w1 w')) (w : World) :
    Calls Tryd.prog 21 #[.int .i64 0, .agg #[.int .i64 (xi : Nat), .string xn, .int .i64 (xo : Nat)], .agg #[.int .i64 (yi : Nat), .string yn, .int .i64 (yo : Nat)]] w fun e w' => e = .returned (.agg #[.int .i64 (ri : Nat), .string rn, .int .i64 (ro : Nat)]) ∧ Below w.heap.size w w' := by
  go_enter Tryd.func21, Tryd.ntmps21
  go_wp2_with fail
  refine (HX.out _).mono ?_
  rintro e w1 ⟨rfl, hb1⟩
  have B1 : Below w.heap.size w w1 := (by repeat (with_reducible (first | exact Below.refl _ _ | assumption | apply ba | apply bd | apply bdr | (refine bs ?_ (by first | assumption | (simp; done) | (simp; omega))) | (refine bt ?_ (by assumption)))))
  have hc1_0 := fun o => (bcell hb1).1 (w.heap.size) o (by first | (simp; done) | assumption | (simp; omega))
  have hf1_0 := fun o => (bcell hb1).2 (w.heap.size) o (by first | (simp; done) | assumption | (simp; omega))
  have zz1_0 : w.heap.size < w1.heap.size := zz hb1 (by first | (simp; done) | assumption | (simp; omega))
  have hc1_1 := fun o => (bcell hb1).1 (w.heap.size + 1) o (by first | (simp; done) | assumption | (simp; omega))
  have hf1_1 := fun o => (bcell hb1).2 (w.heap.size + 1) o (by first | (simp; done) | assumption | (simp; omega))
  have zz1_1 : w.heap.size + 1 < w1.heap.size := zz hb1 (by first | (simp; done) | assumption | (simp; omega))
  have hc1_2 := fun o => (bcell hb1).1 (w.heap.size + 1 + 1) o (by first | (simp; done) | assumption | (simp; omega))
  have hf1_2 := fun o => (bcell hb1).2 (w.heap.size + 1 + 1) o (by first | (simp; done) | assumption | (simp; omega))
  have zz1_2 : w.heap.size + 1 + 1 < w1.heap.size := zz hb1 (by first | (simp; done) | assumption | (simp; omega))
  go_wp2_with fail
  refine (HY.out _).mono ?_
  rintro e w2 ⟨rfl, hb2⟩
  have B2 : Below w.heap.size w w2 := (by repeat (with_reducible (first | exact Below.refl _ _ | assumption | apply ba | apply bd | apply bdr | (refine bs ?_ (by first | assumption | (simp; done) | (simp; omega))) | (refine bt ?_ (by assumption)))))
  have hc2_0 := fun o => (bcell hb2).1 (w.heap.size) o (by first | (simp; done) | assumption | (simp; omega))
  have hf2_0 := fun o => (bcell hb2).2 (w.heap.size) o (by first | (simp; done) | assumption | (simp; omega))
  have zz2_0 : w.heap.size < w2.heap.size := zz hb2 (by first | (simp; done) | assumption | (simp; omega))
  have hc2_1 := fun o => (bcell hb2).1 (w.heap.size + 1) o (by first | (simp; done) | assumption | (simp; omega))
  have hf2_1 := fun o => (bcell hb2).2 (w.heap.size + 1) o (by first | (simp; done) | assumption | (simp; omega))
  have zz2_1 : w.heap.size + 1 < w2.heap.size := zz hb2 (by first | (simp; done) | assumption | (simp; omega))
  have hc2_2 := fun o => (bcell hb2).1 (w.heap.size + 1 + 1) o (by first | (simp; done) | assumption | (simp; omega))
  have hf2_2 := fun o => (bcell hb2).2 (w.heap.size + 1 + 1) o (by first | (simp; done) | assumption | (simp; omega))
  have zz2_2 : w.heap.size + 1 + 1 < w2.heap.size := zz hb2 (by first | (simp; done) | assumption | (simp; omega))
  go_wp2_with fail
  refine (HL.out _).mono ?_
  rintro e w3 ⟨⟨ko, rfl⟩, hb3⟩
  have B3 : Below w.heap.size w w3 := (by repeat (with_reducible (first | exact Below.refl _ _ | assumption | apply ba | apply bd | apply bdr | (refine bs ?_ (by first | assumption | (simp; done) | (simp; omega))) | (refine bt ?_ (by assumption)))))
  have hc3_0 := fun o => (bcell hb3).1 (w.heap.size) o (by first | (simp; done) | assumption | (simp; omega))
  have hf3_0 := fun o => (bcell hb3).2 (w.heap.size) o (by first | (simp; done) | assumption | (simp; omega))
  have zz3_0 : w.heap.size < w3.heap.size := zz hb3 (by first | (simp; done) | assumption | (simp; omega))
  have hc3_1 := fun o => (bcell hb3).1 (w.heap.size + 1) o (by first | (simp; done) | assumption | (simp; omega))
  have hf3_1 := fun o => (bcell hb3).2 (w.heap.size + 1) o (by first | (simp; done) | assumption | (simp; omega))
  have zz3_1 : w.heap.size + 1 < w3.heap.size := zz hb3 (by first | (simp; done) | assumption | (simp; omega))
  have hc3_2 := fun o => (bcell hb3).1 (w.heap.size + 1 + 1) o (by first | (simp; done) | assumption | (simp; omega))
  have hf3_2 := fun o => (bcell hb3).2 (w.heap.size + 1 + 1) o (by first | (simp; done) | assumption | (simp; omega))
  have zz3_2 : w.heap.size + 1 + 1 < w3.heap.size := zz hb3 (by first | (simp; done) | assumption | (simp; omega))
  go_wp2_with fail
  refine (HO.out _ _).mono ?_
  rintro e w4 ⟨rfl, hb4⟩
  have B4 : Below w.heap.size w w4 := (by repeat (with_reducible (first | exact Below.refl _ _ | assumption | apply ba | apply bd | apply bdr | (refine bs ?_ (by first | assumption | (simp; done) | (simp; omega))) | (refine bt ?_ (by assumption)))))
  have hc4_0 := fun o => (bcell hb4).1 (w.heap.size) o (by first | (simp; done) | assumption | (simp; omega))
  have hf4_0 := fun o => (bcell hb4).2 (w.heap.size) o (by first | (simp; done) | assumption | (simp; omega))
  have zz4_0 : w.heap.size < w4.heap.size := zz hb4 (by first | (simp; done) | assumption | (simp; omega))
  have hc4_1 := fun o => (bcell hb4).1 (w.heap.size + 1) o (by first | (simp; done) | assumption | (simp; omega))
  have hf4_1 := fun o => (bcell hb4).2 (w.heap.size + 1) o (by first | (simp; done) | assumption | (simp; omega))
  have zz4_1 : w.heap.size + 1 < w4.heap.size := zz hb4 (by first | (simp; done) | assumption | (simp; omega))
  have hc4_2 := fun o => (bcell hb4).1 (w.heap.size + 1 + 1) o (by first | (simp; done) | assumption | (simp; omega))
  have hf4_2 := fun o => (bcell hb4).2 (w.heap.size + 1 + 1) o (by first | (simp; done) | assumption | (simp; omega))
  have zz4_2 : w.heap.size + 1 + 1 < w4.heap.size := zz hb4 (by first | (simp; done) | assumption | (simp; omega))
  have hc4_3 := fun o => (bcell hb4).1 (w3.heap.size) o (by first | (simp; done) | assumption | (simp; omega))
  have hf4_3 := fun o => (bcell hb4).2 (w3.heap.size) o (by first | (simp; done) | assumption | (simp; omega))
  have zz4_3 : w3.heap.size < w4.heap.size := zz hb4 (by first | (simp; done) | assumption | (simp; omega))
  go_wp2
  exact bodyPost_ret (v := .agg #[.int .i64 (ri : Nat), .string rn, .int .i64 (ro : Nat)]) (by simp [results, Tryd.results21, go_sem, *] <;> first | rfl | omega) rfl ⟨rfl, (by repeat (with_reducible (first | exact Below.refl _ _ | assumption | apply ba | apply bd | apply bdr | (refine bs ?_ (by first | assumption | (simp; done) | (simp; omega))) | (refine bt ?_ (by assumption)))))⟩
end Go.Proofs.YtjpopmgnhgancaaDoor
