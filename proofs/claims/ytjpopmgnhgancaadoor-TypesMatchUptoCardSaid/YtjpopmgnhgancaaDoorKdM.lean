/- Right values, by the reference. No condition beyond what the theorems state. -/
import Derived.Test.YtjpopmgnhgancaaDoorValid
import Derived.Test.YtjpopmgnhgancaaDoorWords
import Derived.Deep.RegionHeld3
namespace Go.Proofs.YtjpopmgnhgancaaDoor
open Go.RowKit Go.Lib
set_option maxRecDepth 100000
set_option maxHeartbeats 4000000
theorem emp_beq {l : List UInt8} (h : l ≠ []) : (ba' l == (⟨#[]⟩ : ByteArray)) = false := by
  rw [beq_toListBytes, toList_ba]
  have : (⟨#[]⟩ : ByteArray).toList = [] := toList_ba []
  rw [this]
  cases l with
  | nil => exact absurd rfl h
  | cons a l => rfl
theorem emp_bne {l : List UInt8} (h : l ≠ []) : (ba' l != (⟨#[]⟩ : ByteArray)) = true := by
  unfold bne; rw [emp_beq h]; rfl
theorem validRef_gt (l : List UInt8) (hl : l.length ≤ 1099511627776) (b : Bool) (hb : validX l = b) : Hid (Gives 53 #[.string (ba' l)] (.bool b)) := gives_unfold fun w => by
  have := valid_ref (ba' l) w (by rw [size_ba]; omega)
  rw [← hb]
  exact this
theorem refR_int_c (n c : Int) (l : List UInt8) (b : Bool) (w : World) (hx : c ≠ 0) : Calls Tryd.prog 33 #[.agg #[.int .i64 1, .int .i64 n, .int .i64 c, .string (ba' l), .bool b]] w fun e w' => e = .returned (.bool false) ∧ Below w.heap.size w w' := by
  have c0 : (c == 0) = false := by simpa using hx
  have c1 : (c != 0) = true := by simpa using hx
  clear hx
  go_enter Tryd.func33, Tryd.ntmps33
  go_wp2
  go_ret
  exact ⟨rfl, by repeat (with_reducible (first | exact Below.refl _ _ | apply ba | apply bd | apply bdr | (refine bs ?_ (by first | (simp; done) | (simp; omega))) | (refine bt ?_ (by assumption)) | assumption))⟩
theorem refR_int_b (n : Int) (l : List UInt8) (w : World) : Calls Tryd.prog 33 #[.agg #[.int .i64 1, .int .i64 n, .int .i64 0, .string (ba' l), .bool true]] w fun e w' => e = .returned (.bool false) ∧ Below w.heap.size w w' := by
  go_enter Tryd.func33, Tryd.ntmps33
  go_wp2
  go_ret
  exact ⟨rfl, by repeat (with_reducible (first | exact Below.refl _ _ | apply ba | apply bd | apply bdr | (refine bs ?_ (by first | (simp; done) | (simp; omega))) | (refine bt ?_ (by assumption)) | assumption))⟩
theorem refR_int_l (n : Int) (l : List UInt8) (w : World) (hx : l ≠ []) : Calls Tryd.prog 33 #[.agg #[.int .i64 1, .int .i64 n, .int .i64 0, .string (ba' l), .bool false]] w fun e w' => e = .returned (.bool false) ∧ Below w.heap.size w w' := by
  have l0 := emp_beq hx
  have l1 := emp_bne hx
  have l2 : ((ba' l).toList == (⟨#[]⟩ : ByteArray).toList) = false := by rw [← beq_toListBytes]; exact l0
  have l3 : ((ba' l).toList != (⟨#[]⟩ : ByteArray).toList) = true := by unfold bne; rw [l2]; rfl
  have l4 : (ba' l).toList.isEmpty = false := by rw [toList_ba]; cases l with | nil => exact absurd rfl hx | cons a l => rfl
  have l5 : (!(ba' l).toList.isEmpty) = true := by rw [l4]; rfl
  clear hx
  go_enter Tryd.func33, Tryd.ntmps33
  go_wp2
  go_ret
  exact ⟨rfl, by repeat (with_reducible (first | exact Below.refl _ _ | apply ba | apply bd | apply bdr | (refine bs ?_ (by first | (simp; done) | (simp; omega))) | (refine bt ?_ (by assumption)) | assumption))⟩
theorem refR_dec_b (n c : Int) (l : List UInt8) (w : World) : Calls Tryd.prog 33 #[.agg #[.int .i64 2, .int .i64 n, .int .i64 c, .string (ba' l), .bool true]] w fun e w' => e = .returned (.bool false) ∧ Below w.heap.size w w' := by
  go_enter Tryd.func33, Tryd.ntmps33
  go_wp2
  go_ret
  exact ⟨rfl, by repeat (with_reducible (first | exact Below.refl _ _ | apply ba | apply bd | apply bdr | (refine bs ?_ (by first | (simp; done) | (simp; omega))) | (refine bt ?_ (by assumption)) | assumption))⟩
theorem refR_dec_l (n c : Int) (l : List UInt8) (w : World) (hx : l ≠ []) : Calls Tryd.prog 33 #[.agg #[.int .i64 2, .int .i64 n, .int .i64 c, .string (ba' l), .bool false]] w fun e w' => e = .returned (.bool false) ∧ Below w.heap.size w w' := by
  have l0 := emp_beq hx
  have l1 := emp_bne hx
  have l2 : ((ba' l).toList == (⟨#[]⟩ : ByteArray).toList) = false := by rw [← beq_toListBytes]; exact l0
  have l3 : ((ba' l).toList != (⟨#[]⟩ : ByteArray).toList) = true := by unfold bne; rw [l2]; rfl
  have l4 : (ba' l).toList.isEmpty = false := by rw [toList_ba]; cases l with | nil => exact absurd rfl hx | cons a l => rfl
  have l5 : (!(ba' l).toList.isEmpty) = true := by rw [l4]; rfl
  clear hx
  go_enter Tryd.func33, Tryd.ntmps33
  go_wp2
  go_ret
  exact ⟨rfl, by repeat (with_reducible (first | exact Below.refl _ _ | apply ba | apply bd | apply bdr | (refine bs ?_ (by first | (simp; done) | (simp; omega))) | (refine bt ?_ (by assumption)) | assumption))⟩
theorem refR_str_n (n c : Int) (l : List UInt8) (b : Bool) (w : World) (hx : n ≠ 0) : Calls Tryd.prog 33 #[.agg #[.int .i64 3, .int .i64 n, .int .i64 c, .string (ba' l), .bool b]] w fun e w' => e = .returned (.bool false) ∧ Below w.heap.size w w' := by
  have n0 : (n == 0) = false := by simpa using hx
  have n1 : (n != 0) = true := by simpa using hx
  clear hx
  go_enter Tryd.func33, Tryd.ntmps33
  go_wp2
  go_ret
  exact ⟨rfl, by repeat (with_reducible (first | exact Below.refl _ _ | apply ba | apply bd | apply bdr | (refine bs ?_ (by first | (simp; done) | (simp; omega))) | (refine bt ?_ (by assumption)) | assumption))⟩
theorem refR_str_c (c : Int) (l : List UInt8) (b : Bool) (w : World) (hx : c ≠ 0) : Calls Tryd.prog 33 #[.agg #[.int .i64 3, .int .i64 0, .int .i64 c, .string (ba' l), .bool b]] w fun e w' => e = .returned (.bool false) ∧ Below w.heap.size w w' := by
  have c0 : (c == 0) = false := by simpa using hx
  have c1 : (c != 0) = true := by simpa using hx
  clear hx
  go_enter Tryd.func33, Tryd.ntmps33
  go_wp2
  go_ret
  exact ⟨rfl, by repeat (with_reducible (first | exact Below.refl _ _ | apply ba | apply bd | apply bdr | (refine bs ?_ (by first | (simp; done) | (simp; omega))) | (refine bt ?_ (by assumption)) | assumption))⟩
theorem refR_str_b (l : List UInt8) (w : World) : Calls Tryd.prog 33 #[.agg #[.int .i64 3, .int .i64 0, .int .i64 0, .string (ba' l), .bool true]] w fun e w' => e = .returned (.bool false) ∧ Below w.heap.size w w' := by
  go_enter Tryd.func33, Tryd.ntmps33
  go_wp2
  go_ret
  exact ⟨rfl, by repeat (with_reducible (first | exact Below.refl _ _ | apply ba | apply bd | apply bdr | (refine bs ?_ (by first | (simp; done) | (simp; omega))) | (refine bt ?_ (by assumption)) | assumption))⟩
theorem refR_str (l : List UInt8) (r : Bool) (w : World) (HV : Hid (Gives 53 #[.string (ba' l)] (.bool r))) : Calls Tryd.prog 33 #[.agg #[.int .i64 3, .int .i64 0, .int .i64 0, .string (ba' l), .bool false]] w fun e w' => e = .returned (.bool r) ∧ Below w.heap.size w w' := by
  go_enter Tryd.func33, Tryd.ntmps33
  go_wp2_with (first
    | (go_at_call 53; refine (HV.out.call _).mono ?_; rintro e w1 ⟨rfl, hb1⟩; have hc1_0 := fun o => (bcell hb1).1 (w.heap.size) o (by first | (simp; done) | assumption | (simp; omega)); have hf1_0 := fun o => (bcell hb1).2 (w.heap.size) o (by first | (simp; done) | assumption | (simp; omega)); have z1_0 : w.heap.size < w1.heap.size := zz hb1 (by first | (simp; done) | assumption | (simp; omega))))
  go_ret
  exact ⟨rfl, by repeat (with_reducible (first | exact Below.refl _ _ | apply ba | apply bd | apply bdr | (refine bs ?_ (by first | (simp; done) | (simp; omega))) | (refine bt ?_ (by assumption)) | assumption))⟩
theorem refR_raw_n (n c : Int) (l : List UInt8) (b : Bool) (w : World) (hx : n ≠ 0) : Calls Tryd.prog 33 #[.agg #[.int .i64 5, .int .i64 n, .int .i64 c, .string (ba' l), .bool b]] w fun e w' => e = .returned (.bool false) ∧ Below w.heap.size w w' := by
  have n0 : (n == 0) = false := by simpa using hx
  have n1 : (n != 0) = true := by simpa using hx
  clear hx
  go_enter Tryd.func33, Tryd.ntmps33
  go_wp2
  go_ret
  exact ⟨rfl, by repeat (with_reducible (first | exact Below.refl _ _ | apply ba | apply bd | apply bdr | (refine bs ?_ (by first | (simp; done) | (simp; omega))) | (refine bt ?_ (by assumption)) | assumption))⟩
theorem refR_raw_c (c : Int) (l : List UInt8) (b : Bool) (w : World) (hx : c ≠ 0) : Calls Tryd.prog 33 #[.agg #[.int .i64 5, .int .i64 0, .int .i64 c, .string (ba' l), .bool b]] w fun e w' => e = .returned (.bool false) ∧ Below w.heap.size w w' := by
  have c0 : (c == 0) = false := by simpa using hx
  have c1 : (c != 0) = true := by simpa using hx
  clear hx
  go_enter Tryd.func33, Tryd.ntmps33
  go_wp2
  go_ret
  exact ⟨rfl, by repeat (with_reducible (first | exact Below.refl _ _ | apply ba | apply bd | apply bdr | (refine bs ?_ (by first | (simp; done) | (simp; omega))) | (refine bt ?_ (by assumption)) | assumption))⟩
theorem refR_raw_b (l : List UInt8) (w : World) : Calls Tryd.prog 33 #[.agg #[.int .i64 5, .int .i64 0, .int .i64 0, .string (ba' l), .bool true]] w fun e w' => e = .returned (.bool false) ∧ Below w.heap.size w w' := by
  go_enter Tryd.func33, Tryd.ntmps33
  go_wp2
  go_ret
  exact ⟨rfl, by repeat (with_reducible (first | exact Below.refl _ _ | apply ba | apply bd | apply bdr | (refine bs ?_ (by first | (simp; done) | (simp; omega))) | (refine bt ?_ (by assumption)) | assumption))⟩
theorem refR_raw (l : List UInt8) (r : Bool) (w : World) (HV : Hid (Gives 53 #[.string (ba' l)] (.bool r))) : Calls Tryd.prog 33 #[.agg #[.int .i64 5, .int .i64 0, .int .i64 0, .string (ba' l), .bool false]] w fun e w' => e = .returned (.bool r) ∧ Below w.heap.size w w' := by
  go_enter Tryd.func33, Tryd.ntmps33
  go_wp2_with (first
    | (go_at_call 53; refine (HV.out.call _).mono ?_; rintro e w1 ⟨rfl, hb1⟩; have hc1_0 := fun o => (bcell hb1).1 (w.heap.size) o (by first | (simp; done) | assumption | (simp; omega)); have hf1_0 := fun o => (bcell hb1).2 (w.heap.size) o (by first | (simp; done) | assumption | (simp; omega)); have z1_0 : w.heap.size < w1.heap.size := zz hb1 (by first | (simp; done) | assumption | (simp; omega))))
  go_ret
  exact ⟨rfl, by repeat (with_reducible (first | exact Below.refl _ _ | apply ba | apply bd | apply bdr | (refine bs ?_ (by first | (simp; done) | (simp; omega))) | (refine bt ?_ (by assumption)) | assumption))⟩
theorem refR_boo_n (n c : Int) (l : List UInt8) (b : Bool) (w : World) (hx : n ≠ 0) : Calls Tryd.prog 33 #[.agg #[.int .i64 4, .int .i64 n, .int .i64 c, .string (ba' l), .bool b]] w fun e w' => e = .returned (.bool false) ∧ Below w.heap.size w w' := by
  have n0 : (n == 0) = false := by simpa using hx
  have n1 : (n != 0) = true := by simpa using hx
  clear hx
  go_enter Tryd.func33, Tryd.ntmps33
  go_wp2
  go_ret
  exact ⟨rfl, by repeat (with_reducible (first | exact Below.refl _ _ | apply ba | apply bd | apply bdr | (refine bs ?_ (by first | (simp; done) | (simp; omega))) | (refine bt ?_ (by assumption)) | assumption))⟩
theorem refR_boo_c (c : Int) (l : List UInt8) (b : Bool) (w : World) (hx : c ≠ 0) : Calls Tryd.prog 33 #[.agg #[.int .i64 4, .int .i64 0, .int .i64 c, .string (ba' l), .bool b]] w fun e w' => e = .returned (.bool false) ∧ Below w.heap.size w w' := by
  have c0 : (c == 0) = false := by simpa using hx
  have c1 : (c != 0) = true := by simpa using hx
  clear hx
  go_enter Tryd.func33, Tryd.ntmps33
  go_wp2
  go_ret
  exact ⟨rfl, by repeat (with_reducible (first | exact Below.refl _ _ | apply ba | apply bd | apply bdr | (refine bs ?_ (by first | (simp; done) | (simp; omega))) | (refine bt ?_ (by assumption)) | assumption))⟩
theorem refR_boo_l (l : List UInt8) (b : Bool) (w : World) (hx : l ≠ []) : Calls Tryd.prog 33 #[.agg #[.int .i64 4, .int .i64 0, .int .i64 0, .string (ba' l), .bool b]] w fun e w' => e = .returned (.bool false) ∧ Below w.heap.size w w' := by
  have l0 := emp_beq hx
  have l1 := emp_bne hx
  have l2 : ((ba' l).toList == (⟨#[]⟩ : ByteArray).toList) = false := by rw [← beq_toListBytes]; exact l0
  have l3 : ((ba' l).toList != (⟨#[]⟩ : ByteArray).toList) = true := by unfold bne; rw [l2]; rfl
  have l4 : (ba' l).toList.isEmpty = false := by rw [toList_ba]; cases l with | nil => exact absurd rfl hx | cons a l => rfl
  have l5 : (!(ba' l).toList.isEmpty) = true := by rw [l4]; rfl
  clear hx
  go_enter Tryd.func33, Tryd.ntmps33
  go_wp2
  go_ret
  exact ⟨rfl, by repeat (with_reducible (first | exact Below.refl _ _ | apply ba | apply bd | apply bdr | (refine bs ?_ (by first | (simp; done) | (simp; omega))) | (refine bt ?_ (by assumption)) | assumption))⟩
theorem refR_boo (b : Bool) (w : World) : Calls Tryd.prog 33 #[.agg #[.int .i64 4, .int .i64 0, .int .i64 0, .string ⟨#[]⟩, .bool b]] w fun e w' => e = .returned (.bool true) ∧ Below w.heap.size w w' := by
  go_enter Tryd.func33, Tryd.ntmps33
  go_wp2
  go_ret
  exact ⟨rfl, by repeat (with_reducible (first | exact Below.refl _ _ | apply ba | apply bd | apply bdr | (refine bs ?_ (by first | (simp; done) | (simp; omega))) | (refine bt ?_ (by assumption)) | assumption))⟩
theorem refR_int (n : Int) (r : Bool) (w : World) (HV : Hid (Gives 59 #[.int .i64 n, .int .i64 0] (.bool r))) : Calls Tryd.prog 33 #[.agg #[.int .i64 1, .int .i64 n, .int .i64 0, .string ⟨#[]⟩, .bool false]] w fun e w' => e = .returned (.bool r) ∧ Below w.heap.size w w' := by
  go_enter Tryd.func33, Tryd.ntmps33
  go_wp2_with (first
    | (go_at_call 59; refine (HV.out.call _).mono ?_; rintro e w1 ⟨rfl, hb1⟩; have hc1_0 := fun o => (bcell hb1).1 (w.heap.size) o (by first | (simp; done) | assumption | (simp; omega)); have hf1_0 := fun o => (bcell hb1).2 (w.heap.size) o (by first | (simp; done) | assumption | (simp; omega)); have z1_0 : w.heap.size < w1.heap.size := zz hb1 (by first | (simp; done) | assumption | (simp; omega))))
  go_ret
  exact ⟨rfl, by repeat (with_reducible (first | exact Below.refl _ _ | apply ba | apply bd | apply bdr | (refine bs ?_ (by first | (simp; done) | (simp; omega))) | (refine bt ?_ (by assumption)) | assumption))⟩
theorem refR_dec (n : Int) (c : Int) (r : Bool) (w : World) (HV : Hid (Gives 59 #[.int .i64 n, .int .i64 c] (.bool r))) : Calls Tryd.prog 33 #[.agg #[.int .i64 2, .int .i64 n, .int .i64 c, .string ⟨#[]⟩, .bool false]] w fun e w' => e = .returned (.bool r) ∧ Below w.heap.size w w' := by
  go_enter Tryd.func33, Tryd.ntmps33
  go_wp2_with (first
    | (go_at_call 59; refine (HV.out.call _).mono ?_; rintro e w1 ⟨rfl, hb1⟩; have hc1_0 := fun o => (bcell hb1).1 (w.heap.size) o (by first | (simp; done) | assumption | (simp; omega)); have hf1_0 := fun o => (bcell hb1).2 (w.heap.size) o (by first | (simp; done) | assumption | (simp; omega)); have z1_0 : w.heap.size < w1.heap.size := zz hb1 (by first | (simp; done) | assumption | (simp; omega))))
  go_ret
  exact ⟨rfl, by repeat (with_reducible (first | exact Below.refl _ _ | apply ba | apply bd | apply bdr | (refine bs ?_ (by first | (simp; done) | (simp; omega))) | (refine bt ?_ (by assumption)) | assumption))⟩
theorem refR_no_n (k : Int) (n c : Int) (l : List UInt8) (b : Bool) (w : World) (h : k ≠ 1 ∧ k ≠ 2 ∧ k ≠ 3 ∧ k ≠ 4 ∧ k ≠ 5) (hx : n ≠ 0) : Calls Tryd.prog 33 #[.agg #[.int .i64 k, .int .i64 n, .int .i64 c, .string (ba' l), .bool b]] w fun e w' => e = .returned (.bool false) ∧ Below w.heap.size w w' := by
  have k1 : (k == 1) = false := by simpa using h.1
  have K1 : (k != 1) = true := by simpa using h.1
  have k2 : (k == 2) = false := by simpa using h.2.1
  have K2 : (k != 2) = true := by simpa using h.2.1
  have k3 : (k == 3) = false := by simpa using h.2.2.1
  have K3 : (k != 3) = true := by simpa using h.2.2.1
  have k4 : (k == 4) = false := by simpa using h.2.2.2.1
  have K4 : (k != 4) = true := by simpa using h.2.2.2.1
  have k5 : (k == 5) = false := by simpa using h.2.2.2.2
  have K5 : (k != 5) = true := by simpa using h.2.2.2.2
  clear h
  have n0 : (n == 0) = false := by simpa using hx
  have n1 : (n != 0) = true := by simpa using hx
  clear hx
  go_enter Tryd.func33, Tryd.ntmps33
  go_wp2
  go_ret
  exact ⟨rfl, by repeat (with_reducible (first | exact Below.refl _ _ | apply ba | apply bd | apply bdr | (refine bs ?_ (by first | (simp; done) | (simp; omega))) | (refine bt ?_ (by assumption)) | assumption))⟩
theorem refR_no_c (k c : Int) (l : List UInt8) (b : Bool) (w : World) (h : k ≠ 1 ∧ k ≠ 2 ∧ k ≠ 3 ∧ k ≠ 4 ∧ k ≠ 5) (hx : c ≠ 0) : Calls Tryd.prog 33 #[.agg #[.int .i64 k, .int .i64 0, .int .i64 c, .string (ba' l), .bool b]] w fun e w' => e = .returned (.bool false) ∧ Below w.heap.size w w' := by
  have k1 : (k == 1) = false := by simpa using h.1
  have K1 : (k != 1) = true := by simpa using h.1
  have k2 : (k == 2) = false := by simpa using h.2.1
  have K2 : (k != 2) = true := by simpa using h.2.1
  have k3 : (k == 3) = false := by simpa using h.2.2.1
  have K3 : (k != 3) = true := by simpa using h.2.2.1
  have k4 : (k == 4) = false := by simpa using h.2.2.2.1
  have K4 : (k != 4) = true := by simpa using h.2.2.2.1
  have k5 : (k == 5) = false := by simpa using h.2.2.2.2
  have K5 : (k != 5) = true := by simpa using h.2.2.2.2
  clear h
  have c0 : (c == 0) = false := by simpa using hx
  have c1 : (c != 0) = true := by simpa using hx
  clear hx
  go_enter Tryd.func33, Tryd.ntmps33
  go_wp2
  go_ret
  exact ⟨rfl, by repeat (with_reducible (first | exact Below.refl _ _ | apply ba | apply bd | apply bdr | (refine bs ?_ (by first | (simp; done) | (simp; omega))) | (refine bt ?_ (by assumption)) | assumption))⟩
theorem refR_no_b (k : Int) (l : List UInt8) (w : World) (h : k ≠ 1 ∧ k ≠ 2 ∧ k ≠ 3 ∧ k ≠ 4 ∧ k ≠ 5) : Calls Tryd.prog 33 #[.agg #[.int .i64 k, .int .i64 0, .int .i64 0, .string (ba' l), .bool true]] w fun e w' => e = .returned (.bool false) ∧ Below w.heap.size w w' := by
  have k1 : (k == 1) = false := by simpa using h.1
  have K1 : (k != 1) = true := by simpa using h.1
  have k2 : (k == 2) = false := by simpa using h.2.1
  have K2 : (k != 2) = true := by simpa using h.2.1
  have k3 : (k == 3) = false := by simpa using h.2.2.1
  have K3 : (k != 3) = true := by simpa using h.2.2.1
  have k4 : (k == 4) = false := by simpa using h.2.2.2.1
  have K4 : (k != 4) = true := by simpa using h.2.2.2.1
  have k5 : (k == 5) = false := by simpa using h.2.2.2.2
  have K5 : (k != 5) = true := by simpa using h.2.2.2.2
  clear h
  go_enter Tryd.func33, Tryd.ntmps33
  go_wp2
  go_ret
  exact ⟨rfl, by repeat (with_reducible (first | exact Below.refl _ _ | apply ba | apply bd | apply bdr | (refine bs ?_ (by first | (simp; done) | (simp; omega))) | (refine bt ?_ (by assumption)) | assumption))⟩
theorem refR_no_l (k : Int) (l : List UInt8) (w : World) (h : k ≠ 1 ∧ k ≠ 2 ∧ k ≠ 3 ∧ k ≠ 4 ∧ k ≠ 5) (hx : l ≠ []) : Calls Tryd.prog 33 #[.agg #[.int .i64 k, .int .i64 0, .int .i64 0, .string (ba' l), .bool false]] w fun e w' => e = .returned (.bool false) ∧ Below w.heap.size w w' := by
  have k1 : (k == 1) = false := by simpa using h.1
  have K1 : (k != 1) = true := by simpa using h.1
  have k2 : (k == 2) = false := by simpa using h.2.1
  have K2 : (k != 2) = true := by simpa using h.2.1
  have k3 : (k == 3) = false := by simpa using h.2.2.1
  have K3 : (k != 3) = true := by simpa using h.2.2.1
  have k4 : (k == 4) = false := by simpa using h.2.2.2.1
  have K4 : (k != 4) = true := by simpa using h.2.2.2.1
  have k5 : (k == 5) = false := by simpa using h.2.2.2.2
  have K5 : (k != 5) = true := by simpa using h.2.2.2.2
  clear h
  have l0 := emp_beq hx
  have l1 := emp_bne hx
  have l2 : ((ba' l).toList == (⟨#[]⟩ : ByteArray).toList) = false := by rw [← beq_toListBytes]; exact l0
  have l3 : ((ba' l).toList != (⟨#[]⟩ : ByteArray).toList) = true := by unfold bne; rw [l2]; rfl
  have l4 : (ba' l).toList.isEmpty = false := by rw [toList_ba]; cases l with | nil => exact absurd rfl hx | cons a l => rfl
  have l5 : (!(ba' l).toList.isEmpty) = true := by rw [l4]; rfl
  clear hx
  go_enter Tryd.func33, Tryd.ntmps33
  go_wp2
  go_ret
  exact ⟨rfl, by repeat (with_reducible (first | exact Below.refl _ _ | apply ba | apply bd | apply bdr | (refine bs ?_ (by first | (simp; done) | (simp; omega))) | (refine bt ?_ (by assumption)) | assumption))⟩
theorem refR_no (k : Int) (w : World) (h : k ≠ 1 ∧ k ≠ 2 ∧ k ≠ 3 ∧ k ≠ 4 ∧ k ≠ 5) : Calls Tryd.prog 33 #[.agg #[.int .i64 k, .int .i64 0, .int .i64 0, .string ⟨#[]⟩, .bool false]] w fun e w' => e = .returned (.bool false) ∧ Below w.heap.size w w' := by
  have k1 : (k == 1) = false := by simpa using h.1
  have K1 : (k != 1) = true := by simpa using h.1
  have k2 : (k == 2) = false := by simpa using h.2.1
  have K2 : (k != 2) = true := by simpa using h.2.1
  have k3 : (k == 3) = false := by simpa using h.2.2.1
  have K3 : (k != 3) = true := by simpa using h.2.2.1
  have k4 : (k == 4) = false := by simpa using h.2.2.2.1
  have K4 : (k != 4) = true := by simpa using h.2.2.2.1
  have k5 : (k == 5) = false := by simpa using h.2.2.2.2
  have K5 : (k != 5) = true := by simpa using h.2.2.2.2
  clear h
  go_enter Tryd.func33, Tryd.ntmps33
  go_wp2
  go_ret
  exact ⟨rfl, by repeat (with_reducible (first | exact Below.refl _ _ | apply ba | apply bd | apply bdr | (refine bs ?_ (by first | (simp; done) | (simp; omega))) | (refine bt ?_ (by assumption)) | assumption))⟩
end Go.Proofs.YtjpopmgnhgancaaDoor
namespace Go.Proofs.YtjpopmgnhgancaaDoor
open Go.RowKit Go.Lib
set_option maxRecDepth 100000
set_option maxHeartbeats 4000000
def numR (n c : Int) : Bool := decide (-999999999999999999 ≤ n) && (decide (n ≤ 999999999999999999) && (decide (0 ≤ c) && (decide (c ≤ 9) && ((c == 0) || (n.tmod 10 != 0)))))
theorem num_gt (n c : Int) (_h1 : -9223372036854775808 ≤ n) (_h2 : n ≤ 9223372036854775807) : Hid (Gives 59 #[.int .i64 n, .int .i64 c] (.bool (numR n c))) := gives_unfold fun w => by
  unfold numR
  by_cases a : -999999999999999999 ≤ n
  · have a1 : decide (-999999999999999999 ≤ n) = true := by simpa using a
    have a2 : decide (n ≥ -999999999999999999) = true := by simpa using a
    rw [a1, Bool.true_and]
    by_cases b : n ≤ 999999999999999999
    · have b1 : decide (n ≤ 999999999999999999) = true := by simpa using b
      rw [b1, Bool.true_and]
      by_cases d : 0 ≤ c
      · have d1 : decide (0 ≤ c) = true := by simpa using d
        have d2 : decide (c ≥ 0) = true := by simpa using d
        rw [d1, Bool.true_and]
        by_cases e : c ≤ 9
        · have e1 : decide (c ≤ 9) = true := by simpa using e
          rw [e1, Bool.true_and]
          by_cases f : c = 0
          · subst f
            go_enter Tryd.func59, Tryd.ntmps59
            go_wp2
            go_ret
            exact ⟨rfl, (by repeat (with_reducible (first | exact Below.refl _ _ | assumption | apply ba | apply bd | apply bdr | (refine bs ?_ (by first | assumption | (simp; done) | (simp; omega))) | (refine bt ?_ (by assumption)))))⟩
          · have f1 : (c == 0) = false := by simpa using f
            have f2 : (c = 0) = False := by simpa using f
            rw [f1, Bool.false_or]
            have hw : wrap64 (n.tmod 10) = n.tmod 10 := by unfold wrap64; have h3 := Int.tmod_lt_of_pos n (show (0 : Int) < 10 by decide); have h4 := Int.lt_tmod_of_pos n (show (0 : Int) < 10 by decide); omega
            have hw2 : IntKind.i64.wrap (n.tmod 10) = n.tmod 10 := by rw [IntKind.wrap_i64]; unfold wrap64 at hw; exact hw
            go_enter Tryd.func59, Tryd.ntmps59
            go_wp2
            go_ret
            exact ⟨rfl, (by repeat (with_reducible (first | exact Below.refl _ _ | assumption | apply ba | apply bd | apply bdr | (refine bs ?_ (by first | assumption | (simp; done) | (simp; omega))) | (refine bt ?_ (by assumption)))))⟩
        · have e1 : decide (c ≤ 9) = false := by simpa using e
          rw [e1, Bool.false_and]
          go_enter Tryd.func59, Tryd.ntmps59
          go_wp2
          go_ret
          exact ⟨rfl, (by repeat (with_reducible (first | exact Below.refl _ _ | assumption | apply ba | apply bd | apply bdr | (refine bs ?_ (by first | assumption | (simp; done) | (simp; omega))) | (refine bt ?_ (by assumption)))))⟩
      · have d1 : decide (0 ≤ c) = false := by simpa using d
        have d2 : decide (c ≥ 0) = false := by simpa using d
        rw [d1, Bool.false_and]
        go_enter Tryd.func59, Tryd.ntmps59
        go_wp2
        go_ret
        exact ⟨rfl, (by repeat (with_reducible (first | exact Below.refl _ _ | assumption | apply ba | apply bd | apply bdr | (refine bs ?_ (by first | assumption | (simp; done) | (simp; omega))) | (refine bt ?_ (by assumption)))))⟩
    · have b1 : decide (n ≤ 999999999999999999) = false := by simpa using b
      rw [b1, Bool.false_and]
      go_enter Tryd.func59, Tryd.ntmps59
      go_wp2
      go_ret
      exact ⟨rfl, (by repeat (with_reducible (first | exact Below.refl _ _ | assumption | apply ba | apply bd | apply bdr | (refine bs ?_ (by first | assumption | (simp; done) | (simp; omega))) | (refine bt ?_ (by assumption)))))⟩
  · have a1 : decide (-999999999999999999 ≤ n) = false := by simpa using a
    have a2 : decide (n ≥ -999999999999999999) = false := by simpa using a
    rw [a1, Bool.false_and]
    go_enter Tryd.func59, Tryd.ntmps59
    go_wp2
    go_ret
    exact ⟨rfl, (by repeat (with_reducible (first | exact Below.refl _ _ | assumption | apply ba | apply bd | apply bdr | (refine bs ?_ (by first | assumption | (simp; done) | (simp; omega))) | (refine bt ?_ (by assumption)))))⟩
/-- Is a value right? -/
def atomR (k n c : Int) (l : List UInt8) (b : Bool) : Bool :=
  if k = 1 then decide (c = 0) && (!b && (decide (l = []) && numR n 0))
  else if k = 2 then !b && (decide (l = []) && numR n c)
  else if k = 3 ∨ k = 5 then decide (n = 0) && (decide (c = 0) && (!b && validX l))
  else if k = 4 then decide (n = 0) && (decide (c = 0) && decide (l = []))
  else false
theorem atom_ref (k n c : Int) (l : List UInt8) (b : Bool) (h1 : -9223372036854775808 ≤ n) (h2 : n ≤ 9223372036854775807) (hl : l.length ≤ 1099511627776) (w : World) :
    Calls Tryd.prog 33 #[.agg #[.int .i64 k, .int .i64 n, .int .i64 c, .string (ba' l), .bool b]] w fun e w' => e = .returned (.bool (atomR k n c l b)) ∧ Below w.heap.size w w' := by
  unfold atomR
  by_cases k1 : k = 1
  · subst k1
    rw [if_pos rfl]
    by_cases hc : c = 0
    · subst hc
      cases b with
      | true => exact refR_int_b n l w
      | false =>
        by_cases hx : l = []
        · subst hx; exact refR_int n _ w (num_gt n 0 h1 h2)
        · rw [decide_eq_false hx]; exact refR_int_l n l w hx
    · rw [decide_eq_false hc]; exact refR_int_c n c l b w hc
  rw [if_neg k1]
  by_cases k2 : k = 2
  · subst k2
    rw [if_pos rfl]
    cases b with
    | true => exact refR_dec_b n c l w
    | false =>
      by_cases hx : l = []
      · subst hx; exact refR_dec n c _ w (num_gt n c h1 h2)
      · rw [decide_eq_false hx]; exact refR_dec_l n c l w hx
  rw [if_neg k2]
  by_cases k3 : k = 3
  · subst k3
    rw [if_pos (.inl rfl)]
    by_cases hn : n = 0
    · subst hn
      by_cases hc : c = 0
      · subst hc
        cases b with
        | true => exact refR_str_b l w
        | false => exact refR_str l _ w (validRef_gt l hl _ rfl)
      · rw [decide_eq_false hc]; exact refR_str_c c l b w hc
    · rw [decide_eq_false hn]; exact refR_str_n n c l b w hn
  by_cases k5 : k = 5
  · subst k5
    rw [if_pos (.inr rfl)]
    by_cases hn : n = 0
    · subst hn
      by_cases hc : c = 0
      · subst hc
        cases b with
        | true => exact refR_raw_b l w
        | false => exact refR_raw l _ w (validRef_gt l hl _ rfl)
      · rw [decide_eq_false hc]; exact refR_raw_c c l b w hc
    · rw [decide_eq_false hn]; exact refR_raw_n n c l b w hn
  rw [if_neg (by rintro (h | h); exact k3 h; exact k5 h)]
  by_cases k4 : k = 4
  · subst k4
    rw [if_pos rfl]
    by_cases hn : n = 0
    · subst hn
      by_cases hc : c = 0
      · subst hc
        by_cases hx : l = []
        · subst hx; exact refR_boo b w
        · rw [decide_eq_false hx]; exact refR_boo_l l b w hx
      · rw [decide_eq_false hc]; exact refR_boo_c c l b w hc
    · rw [decide_eq_false hn]; exact refR_boo_n n c l b w hn
  rw [if_neg k4]
  have h : k ≠ 1 ∧ k ≠ 2 ∧ k ≠ 3 ∧ k ≠ 4 ∧ k ≠ 5 := ⟨k1, k2, k3, k4, k5⟩
  by_cases hn : n = 0
  · subst hn
    by_cases hc : c = 0
    · subst hc
      cases b with
      | true => exact refR_no_b k l w h
      | false =>
        by_cases hx : l = []
        · subst hx; exact refR_no k w h
        · exact refR_no_l k l w h hx
    · exact refR_no_c k c l b w h hc
  · exact refR_no_n k n c l b w h hn
theorem atom_kinds {k n c : Int} {l : List UInt8} {b : Bool} (h : atomR k n c l b = true) : 1 ≤ k ∧ k ≤ 5 := by
  unfold atomR at h
  split at h
  · omega
  split at h
  · omega
  split at h
  · omega
  split at h
  · omega
  · cases h
end Go.Proofs.YtjpopmgnhgancaaDoor
