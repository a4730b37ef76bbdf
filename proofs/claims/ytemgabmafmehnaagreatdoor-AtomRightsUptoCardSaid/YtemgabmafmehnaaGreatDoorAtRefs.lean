/- The reference tells right values. No condition beyond what the theorems state. -/
import Derived.Test.YtemgabmafmehnaaGreatDoorAtSmall
import Derived.Test.YtemgabmafmehnaaGreatDoorChBytes
import Derived.Test.YtemgabmafmehnaaGreatDoorDeRefs
namespace Go.Proofs.YtemgabmafmehnaaGreatDoor
open Go.Shelf Go.RowKit Go.Proofs.Wide
set_option maxRecDepth 100000
set_option maxHeartbeats 4000000
theorem emp_beq {l : List UInt8} (h : l ≠ []) : (ba' l == (⟨#[]⟩ : ByteArray)) = false := by
  rw [beq_toListBytes, toList_ba]
  have : (⟨#[]⟩ : ByteArray).toList = [] := toList_ba []
  rw [this]
  cases l with
  | nil => exact absurd rfl h
  | cons a l => rfl
theorem emp_bne {l : List UInt8} (h : l ≠ []) : (ba' l != (⟨#[]⟩ : ByteArray)) = true := by
  unfold bne; rw [emp_beq h]; rfl
theorem validRef_gt (l : List UInt8) (hl : l.length ≤ 1048576) (b : Bool) (hb : validX l = b) : Hid (Gives 40 #[.string (ba' l)] (.bool b)) := gives_unfold fun w => by
  have := valid_ref (ba' l) w (by rw [size_ba]; omega)
  rw [← hb]
  exact this
theorem numRef_gt (n k : Int) (hn : InI n) (hk : InI k) (b : Bool) (hb : rightB (n, k) = b) : Hid (Gives 41 #[.int .i64 n, .int .i64 k] (.bool b)) := same_gives fun w => by
  have := refRight_any n k hn hk w
  rw [hb] at this
  exact this
theorem refR_int_c (n c : Int) (l : List UInt8) (b : Bool) (w : World) (hx : c ≠ 0) : Calls Tryz.prog 13 #[.agg #[.int .i64 1, .int .i64 n, .int .i64 c, .string (ba' l), .bool b]] w fun e w' => e = .returned (.bool false) ∧ Below w.heap.size w w' := by
  have c0 : (c == 0) = false := by simpa using hx
  have c1 : (c != 0) = true := by simpa using hx
  clear hx
  go_enter Tryz.func13, Tryz.ntmps13
  go_wp2
  go_ret
  exact ⟨rfl, by repeat (with_reducible (first | exact Below.refl _ _ | apply ba | apply bd | apply bdr | (refine bs ?_ (by first | (simp; done) | (simp; omega))) | (refine bt ?_ (by assumption)) | assumption))⟩
theorem refR_int_b (n : Int) (l : List UInt8) (w : World) : Calls Tryz.prog 13 #[.agg #[.int .i64 1, .int .i64 n, .int .i64 0, .string (ba' l), .bool true]] w fun e w' => e = .returned (.bool false) ∧ Below w.heap.size w w' := by
  go_enter Tryz.func13, Tryz.ntmps13
  go_wp2
  go_ret
  exact ⟨rfl, by repeat (with_reducible (first | exact Below.refl _ _ | apply ba | apply bd | apply bdr | (refine bs ?_ (by first | (simp; done) | (simp; omega))) | (refine bt ?_ (by assumption)) | assumption))⟩
theorem refR_int_l (n : Int) (l : List UInt8) (w : World) (hx : l ≠ []) : Calls Tryz.prog 13 #[.agg #[.int .i64 1, .int .i64 n, .int .i64 0, .string (ba' l), .bool false]] w fun e w' => e = .returned (.bool false) ∧ Below w.heap.size w w' := by
  have l0 := emp_beq hx
  have l1 := emp_bne hx
  have l2 : ((ba' l).toList == (⟨#[]⟩ : ByteArray).toList) = false := by rw [← beq_toListBytes]; exact l0
  have l3 : ((ba' l).toList != (⟨#[]⟩ : ByteArray).toList) = true := by unfold bne; rw [l2]; rfl
  have l4 : (ba' l).toList.isEmpty = false := by rw [toList_ba]; cases l with | nil => exact absurd rfl hx | cons a l => rfl
  have l5 : (!(ba' l).toList.isEmpty) = true := by rw [l4]; rfl
  clear hx
  go_enter Tryz.func13, Tryz.ntmps13
  go_wp2
  go_ret
  exact ⟨rfl, by repeat (with_reducible (first | exact Below.refl _ _ | apply ba | apply bd | apply bdr | (refine bs ?_ (by first | (simp; done) | (simp; omega))) | (refine bt ?_ (by assumption)) | assumption))⟩
theorem refR_dec_b (n c : Int) (l : List UInt8) (w : World) : Calls Tryz.prog 13 #[.agg #[.int .i64 2, .int .i64 n, .int .i64 c, .string (ba' l), .bool true]] w fun e w' => e = .returned (.bool false) ∧ Below w.heap.size w w' := by
  go_enter Tryz.func13, Tryz.ntmps13
  go_wp2
  go_ret
  exact ⟨rfl, by repeat (with_reducible (first | exact Below.refl _ _ | apply ba | apply bd | apply bdr | (refine bs ?_ (by first | (simp; done) | (simp; omega))) | (refine bt ?_ (by assumption)) | assumption))⟩
theorem refR_dec_l (n c : Int) (l : List UInt8) (w : World) (hx : l ≠ []) : Calls Tryz.prog 13 #[.agg #[.int .i64 2, .int .i64 n, .int .i64 c, .string (ba' l), .bool false]] w fun e w' => e = .returned (.bool false) ∧ Below w.heap.size w w' := by
  have l0 := emp_beq hx
  have l1 := emp_bne hx
  have l2 : ((ba' l).toList == (⟨#[]⟩ : ByteArray).toList) = false := by rw [← beq_toListBytes]; exact l0
  have l3 : ((ba' l).toList != (⟨#[]⟩ : ByteArray).toList) = true := by unfold bne; rw [l2]; rfl
  have l4 : (ba' l).toList.isEmpty = false := by rw [toList_ba]; cases l with | nil => exact absurd rfl hx | cons a l => rfl
  have l5 : (!(ba' l).toList.isEmpty) = true := by rw [l4]; rfl
  clear hx
  go_enter Tryz.func13, Tryz.ntmps13
  go_wp2
  go_ret
  exact ⟨rfl, by repeat (with_reducible (first | exact Below.refl _ _ | apply ba | apply bd | apply bdr | (refine bs ?_ (by first | (simp; done) | (simp; omega))) | (refine bt ?_ (by assumption)) | assumption))⟩
theorem refR_str_n (n c : Int) (l : List UInt8) (b : Bool) (w : World) (hx : n ≠ 0) : Calls Tryz.prog 13 #[.agg #[.int .i64 3, .int .i64 n, .int .i64 c, .string (ba' l), .bool b]] w fun e w' => e = .returned (.bool false) ∧ Below w.heap.size w w' := by
  have n0 : (n == 0) = false := by simpa using hx
  have n1 : (n != 0) = true := by simpa using hx
  clear hx
  go_enter Tryz.func13, Tryz.ntmps13
  go_wp2
  go_ret
  exact ⟨rfl, by repeat (with_reducible (first | exact Below.refl _ _ | apply ba | apply bd | apply bdr | (refine bs ?_ (by first | (simp; done) | (simp; omega))) | (refine bt ?_ (by assumption)) | assumption))⟩
theorem refR_str_c (c : Int) (l : List UInt8) (b : Bool) (w : World) (hx : c ≠ 0) : Calls Tryz.prog 13 #[.agg #[.int .i64 3, .int .i64 0, .int .i64 c, .string (ba' l), .bool b]] w fun e w' => e = .returned (.bool false) ∧ Below w.heap.size w w' := by
  have c0 : (c == 0) = false := by simpa using hx
  have c1 : (c != 0) = true := by simpa using hx
  clear hx
  go_enter Tryz.func13, Tryz.ntmps13
  go_wp2
  go_ret
  exact ⟨rfl, by repeat (with_reducible (first | exact Below.refl _ _ | apply ba | apply bd | apply bdr | (refine bs ?_ (by first | (simp; done) | (simp; omega))) | (refine bt ?_ (by assumption)) | assumption))⟩
theorem refR_str_b (l : List UInt8) (w : World) : Calls Tryz.prog 13 #[.agg #[.int .i64 3, .int .i64 0, .int .i64 0, .string (ba' l), .bool true]] w fun e w' => e = .returned (.bool false) ∧ Below w.heap.size w w' := by
  go_enter Tryz.func13, Tryz.ntmps13
  go_wp2
  go_ret
  exact ⟨rfl, by repeat (with_reducible (first | exact Below.refl _ _ | apply ba | apply bd | apply bdr | (refine bs ?_ (by first | (simp; done) | (simp; omega))) | (refine bt ?_ (by assumption)) | assumption))⟩
theorem refR_str (l : List UInt8) (r : Bool) (w : World) (HV : Hid (Gives 40 #[.string (ba' l)] (.bool r))) : Calls Tryz.prog 13 #[.agg #[.int .i64 3, .int .i64 0, .int .i64 0, .string (ba' l), .bool false]] w fun e w' => e = .returned (.bool r) ∧ Below w.heap.size w w' := by
  go_enter Tryz.func13, Tryz.ntmps13
  go_wp2_with (first
    | (go_at_call 40; refine (HV.out.call _).mono ?_; rintro e w1 ⟨rfl, hb1⟩; have hc1_0 := fun o => (bcell hb1).1 (w.heap.size) o (by first | (simp; done) | assumption | (simp; omega)); have hf1_0 := fun o => (bcell hb1).2 (w.heap.size) o (by first | (simp; done) | assumption | (simp; omega)); have z1_0 : w.heap.size < w1.heap.size := zz hb1 (by first | (simp; done) | assumption | (simp; omega))))
  go_ret
  exact ⟨rfl, by repeat (with_reducible (first | exact Below.refl _ _ | apply ba | apply bd | apply bdr | (refine bs ?_ (by first | (simp; done) | (simp; omega))) | (refine bt ?_ (by assumption)) | assumption))⟩
theorem refR_raw_n (n c : Int) (l : List UInt8) (b : Bool) (w : World) (hx : n ≠ 0) : Calls Tryz.prog 13 #[.agg #[.int .i64 5, .int .i64 n, .int .i64 c, .string (ba' l), .bool b]] w fun e w' => e = .returned (.bool false) ∧ Below w.heap.size w w' := by
  have n0 : (n == 0) = false := by simpa using hx
  have n1 : (n != 0) = true := by simpa using hx
  clear hx
  go_enter Tryz.func13, Tryz.ntmps13
  go_wp2
  go_ret
  exact ⟨rfl, by repeat (with_reducible (first | exact Below.refl _ _ | apply ba | apply bd | apply bdr | (refine bs ?_ (by first | (simp; done) | (simp; omega))) | (refine bt ?_ (by assumption)) | assumption))⟩
theorem refR_raw_c (c : Int) (l : List UInt8) (b : Bool) (w : World) (hx : c ≠ 0) : Calls Tryz.prog 13 #[.agg #[.int .i64 5, .int .i64 0, .int .i64 c, .string (ba' l), .bool b]] w fun e w' => e = .returned (.bool false) ∧ Below w.heap.size w w' := by
  have c0 : (c == 0) = false := by simpa using hx
  have c1 : (c != 0) = true := by simpa using hx
  clear hx
  go_enter Tryz.func13, Tryz.ntmps13
  go_wp2
  go_ret
  exact ⟨rfl, by repeat (with_reducible (first | exact Below.refl _ _ | apply ba | apply bd | apply bdr | (refine bs ?_ (by first | (simp; done) | (simp; omega))) | (refine bt ?_ (by assumption)) | assumption))⟩
theorem refR_raw_b (l : List UInt8) (w : World) : Calls Tryz.prog 13 #[.agg #[.int .i64 5, .int .i64 0, .int .i64 0, .string (ba' l), .bool true]] w fun e w' => e = .returned (.bool false) ∧ Below w.heap.size w w' := by
  go_enter Tryz.func13, Tryz.ntmps13
  go_wp2
  go_ret
  exact ⟨rfl, by repeat (with_reducible (first | exact Below.refl _ _ | apply ba | apply bd | apply bdr | (refine bs ?_ (by first | (simp; done) | (simp; omega))) | (refine bt ?_ (by assumption)) | assumption))⟩
theorem refR_raw (l : List UInt8) (r : Bool) (w : World) (HV : Hid (Gives 40 #[.string (ba' l)] (.bool r))) : Calls Tryz.prog 13 #[.agg #[.int .i64 5, .int .i64 0, .int .i64 0, .string (ba' l), .bool false]] w fun e w' => e = .returned (.bool r) ∧ Below w.heap.size w w' := by
  go_enter Tryz.func13, Tryz.ntmps13
  go_wp2_with (first
    | (go_at_call 40; refine (HV.out.call _).mono ?_; rintro e w1 ⟨rfl, hb1⟩; have hc1_0 := fun o => (bcell hb1).1 (w.heap.size) o (by first | (simp; done) | assumption | (simp; omega)); have hf1_0 := fun o => (bcell hb1).2 (w.heap.size) o (by first | (simp; done) | assumption | (simp; omega)); have z1_0 : w.heap.size < w1.heap.size := zz hb1 (by first | (simp; done) | assumption | (simp; omega))))
  go_ret
  exact ⟨rfl, by repeat (with_reducible (first | exact Below.refl _ _ | apply ba | apply bd | apply bdr | (refine bs ?_ (by first | (simp; done) | (simp; omega))) | (refine bt ?_ (by assumption)) | assumption))⟩
theorem refR_boo_n (n c : Int) (l : List UInt8) (b : Bool) (w : World) (hx : n ≠ 0) : Calls Tryz.prog 13 #[.agg #[.int .i64 4, .int .i64 n, .int .i64 c, .string (ba' l), .bool b]] w fun e w' => e = .returned (.bool false) ∧ Below w.heap.size w w' := by
  have n0 : (n == 0) = false := by simpa using hx
  have n1 : (n != 0) = true := by simpa using hx
  clear hx
  go_enter Tryz.func13, Tryz.ntmps13
  go_wp2
  go_ret
  exact ⟨rfl, by repeat (with_reducible (first | exact Below.refl _ _ | apply ba | apply bd | apply bdr | (refine bs ?_ (by first | (simp; done) | (simp; omega))) | (refine bt ?_ (by assumption)) | assumption))⟩
theorem refR_boo_c (c : Int) (l : List UInt8) (b : Bool) (w : World) (hx : c ≠ 0) : Calls Tryz.prog 13 #[.agg #[.int .i64 4, .int .i64 0, .int .i64 c, .string (ba' l), .bool b]] w fun e w' => e = .returned (.bool false) ∧ Below w.heap.size w w' := by
  have c0 : (c == 0) = false := by simpa using hx
  have c1 : (c != 0) = true := by simpa using hx
  clear hx
  go_enter Tryz.func13, Tryz.ntmps13
  go_wp2
  go_ret
  exact ⟨rfl, by repeat (with_reducible (first | exact Below.refl _ _ | apply ba | apply bd | apply bdr | (refine bs ?_ (by first | (simp; done) | (simp; omega))) | (refine bt ?_ (by assumption)) | assumption))⟩
theorem refR_boo_l (l : List UInt8) (b : Bool) (w : World) (hx : l ≠ []) : Calls Tryz.prog 13 #[.agg #[.int .i64 4, .int .i64 0, .int .i64 0, .string (ba' l), .bool b]] w fun e w' => e = .returned (.bool false) ∧ Below w.heap.size w w' := by
  have l0 := emp_beq hx
  have l1 := emp_bne hx
  have l2 : ((ba' l).toList == (⟨#[]⟩ : ByteArray).toList) = false := by rw [← beq_toListBytes]; exact l0
  have l3 : ((ba' l).toList != (⟨#[]⟩ : ByteArray).toList) = true := by unfold bne; rw [l2]; rfl
  have l4 : (ba' l).toList.isEmpty = false := by rw [toList_ba]; cases l with | nil => exact absurd rfl hx | cons a l => rfl
  have l5 : (!(ba' l).toList.isEmpty) = true := by rw [l4]; rfl
  clear hx
  go_enter Tryz.func13, Tryz.ntmps13
  go_wp2
  go_ret
  exact ⟨rfl, by repeat (with_reducible (first | exact Below.refl _ _ | apply ba | apply bd | apply bdr | (refine bs ?_ (by first | (simp; done) | (simp; omega))) | (refine bt ?_ (by assumption)) | assumption))⟩
theorem refR_boo (b : Bool) (w : World) : Calls Tryz.prog 13 #[.agg #[.int .i64 4, .int .i64 0, .int .i64 0, .string ⟨#[]⟩, .bool b]] w fun e w' => e = .returned (.bool true) ∧ Below w.heap.size w w' := by
  go_enter Tryz.func13, Tryz.ntmps13
  go_wp2
  go_ret
  exact ⟨rfl, by repeat (with_reducible (first | exact Below.refl _ _ | apply ba | apply bd | apply bdr | (refine bs ?_ (by first | (simp; done) | (simp; omega))) | (refine bt ?_ (by assumption)) | assumption))⟩
theorem refR_int (n : Int) (r : Bool) (w : World) (HV : Hid (Gives 41 #[.int .i64 n, .int .i64 0] (.bool r))) : Calls Tryz.prog 13 #[.agg #[.int .i64 1, .int .i64 n, .int .i64 0, .string ⟨#[]⟩, .bool false]] w fun e w' => e = .returned (.bool r) ∧ Below w.heap.size w w' := by
  go_enter Tryz.func13, Tryz.ntmps13
  go_wp2_with (first
    | (go_at_call 41; refine (HV.out.call _).mono ?_; rintro e w1 ⟨rfl, hb1⟩; have hc1_0 := fun o => (bcell hb1).1 (w.heap.size) o (by first | (simp; done) | assumption | (simp; omega)); have hf1_0 := fun o => (bcell hb1).2 (w.heap.size) o (by first | (simp; done) | assumption | (simp; omega)); have z1_0 : w.heap.size < w1.heap.size := zz hb1 (by first | (simp; done) | assumption | (simp; omega))))
  go_ret
  exact ⟨rfl, by repeat (with_reducible (first | exact Below.refl _ _ | apply ba | apply bd | apply bdr | (refine bs ?_ (by first | (simp; done) | (simp; omega))) | (refine bt ?_ (by assumption)) | assumption))⟩
theorem refR_dec (n : Int) (c : Int) (r : Bool) (w : World) (HV : Hid (Gives 41 #[.int .i64 n, .int .i64 c] (.bool r))) : Calls Tryz.prog 13 #[.agg #[.int .i64 2, .int .i64 n, .int .i64 c, .string ⟨#[]⟩, .bool false]] w fun e w' => e = .returned (.bool r) ∧ Below w.heap.size w w' := by
  go_enter Tryz.func13, Tryz.ntmps13
  go_wp2_with (first
    | (go_at_call 41; refine (HV.out.call _).mono ?_; rintro e w1 ⟨rfl, hb1⟩; have hc1_0 := fun o => (bcell hb1).1 (w.heap.size) o (by first | (simp; done) | assumption | (simp; omega)); have hf1_0 := fun o => (bcell hb1).2 (w.heap.size) o (by first | (simp; done) | assumption | (simp; omega)); have z1_0 : w.heap.size < w1.heap.size := zz hb1 (by first | (simp; done) | assumption | (simp; omega))))
  go_ret
  exact ⟨rfl, by repeat (with_reducible (first | exact Below.refl _ _ | apply ba | apply bd | apply bdr | (refine bs ?_ (by first | (simp; done) | (simp; omega))) | (refine bt ?_ (by assumption)) | assumption))⟩
theorem refR_no_n (k : Int) (n c : Int) (l : List UInt8) (b : Bool) (w : World) (h : k ≠ 1 ∧ k ≠ 2 ∧ k ≠ 3 ∧ k ≠ 4 ∧ k ≠ 5) (hx : n ≠ 0) : Calls Tryz.prog 13 #[.agg #[.int .i64 k, .int .i64 n, .int .i64 c, .string (ba' l), .bool b]] w fun e w' => e = .returned (.bool false) ∧ Below w.heap.size w w' := by
  have k1 : (k == 1) = false := by simpa using h.1
  have K1 : (k != 1) = true := by simpa using h.1
  have k2 : (k == 2) = false := by simpa using h.2.1
  have K2 : (k != 2) = true := by simpa using h.2.1
  have k3 : (k == 3) = false := by simpa using h.2.2.1
  have K3 : (k != 3) = true := by simpa using h.2.2.1
  have k4 : (k == 4) = false := by simpa using h.2.2.2.1
  have K4 : (k != 4) = true := by simpa using h.2.2.2.1
  have k5 : (k == 5) = false := by simpa using h.2.2.2.2
  have K5 : (k != 5) = true := by simpa using h.2.2.2.2
  clear h
  have n0 : (n == 0) = false := by simpa using hx
  have n1 : (n != 0) = true := by simpa using hx
  clear hx
  go_enter Tryz.func13, Tryz.ntmps13
  go_wp2
  go_ret
  exact ⟨rfl, by repeat (with_reducible (first | exact Below.refl _ _ | apply ba | apply bd | apply bdr | (refine bs ?_ (by first | (simp; done) | (simp; omega))) | (refine bt ?_ (by assumption)) | assumption))⟩
theorem refR_no_c (k c : Int) (l : List UInt8) (b : Bool) (w : World) (h : k ≠ 1 ∧ k ≠ 2 ∧ k ≠ 3 ∧ k ≠ 4 ∧ k ≠ 5) (hx : c ≠ 0) : Calls Tryz.prog 13 #[.agg #[.int .i64 k, .int .i64 0, .int .i64 c, .string (ba' l), .bool b]] w fun e w' => e = .returned (.bool false) ∧ Below w.heap.size w w' := by
  have k1 : (k == 1) = false := by simpa using h.1
  have K1 : (k != 1) = true := by simpa using h.1
  have k2 : (k == 2) = false := by simpa using h.2.1
  have K2 : (k != 2) = true := by simpa using h.2.1
  have k3 : (k == 3) = false := by simpa using h.2.2.1
  have K3 : (k != 3) = true := by simpa using h.2.2.1
  have k4 : (k == 4) = false := by simpa using h.2.2.2.1
  have K4 : (k != 4) = true := by simpa using h.2.2.2.1
  have k5 : (k == 5) = false := by simpa using h.2.2.2.2
  have K5 : (k != 5) = true := by simpa using h.2.2.2.2
  clear h
  have c0 : (c == 0) = false := by simpa using hx
  have c1 : (c != 0) = true := by simpa using hx
  clear hx
  go_enter Tryz.func13, Tryz.ntmps13
  go_wp2
  go_ret
  exact ⟨rfl, by repeat (with_reducible (first | exact Below.refl _ _ | apply ba | apply bd | apply bdr | (refine bs ?_ (by first | (simp; done) | (simp; omega))) | (refine bt ?_ (by assumption)) | assumption))⟩
theorem refR_no_b (k : Int) (l : List UInt8) (w : World) (h : k ≠ 1 ∧ k ≠ 2 ∧ k ≠ 3 ∧ k ≠ 4 ∧ k ≠ 5) : Calls Tryz.prog 13 #[.agg #[.int .i64 k, .int .i64 0, .int .i64 0, .string (ba' l), .bool true]] w fun e w' => e = .returned (.bool false) ∧ Below w.heap.size w w' := by
  have k1 : (k == 1) = false := by simpa using h.1
  have K1 : (k != 1) = true := by simpa using h.1
  have k2 : (k == 2) = false := by simpa using h.2.1
  have K2 : (k != 2) = true := by simpa using h.2.1
  have k3 : (k == 3) = false := by simpa using h.2.2.1
  have K3 : (k != 3) = true := by simpa using h.2.2.1
  have k4 : (k == 4) = false := by simpa using h.2.2.2.1
  have K4 : (k != 4) = true := by simpa using h.2.2.2.1
  have k5 : (k == 5) = false := by simpa using h.2.2.2.2
  have K5 : (k != 5) = true := by simpa using h.2.2.2.2
  clear h
  go_enter Tryz.func13, Tryz.ntmps13
  go_wp2
  go_ret
  exact ⟨rfl, by repeat (with_reducible (first | exact Below.refl _ _ | apply ba | apply bd | apply bdr | (refine bs ?_ (by first | (simp; done) | (simp; omega))) | (refine bt ?_ (by assumption)) | assumption))⟩
theorem refR_no_l (k : Int) (l : List UInt8) (w : World) (h : k ≠ 1 ∧ k ≠ 2 ∧ k ≠ 3 ∧ k ≠ 4 ∧ k ≠ 5) (hx : l ≠ []) : Calls Tryz.prog 13 #[.agg #[.int .i64 k, .int .i64 0, .int .i64 0, .string (ba' l), .bool false]] w fun e w' => e = .returned (.bool false) ∧ Below w.heap.size w w' := by
  have k1 : (k == 1) = false := by simpa using h.1
  have K1 : (k != 1) = true := by simpa using h.1
  have k2 : (k == 2) = false := by simpa using h.2.1
  have K2 : (k != 2) = true := by simpa using h.2.1
  have k3 : (k == 3) = false := by simpa using h.2.2.1
  have K3 : (k != 3) = true := by simpa using h.2.2.1
  have k4 : (k == 4) = false := by simpa using h.2.2.2.1
  have K4 : (k != 4) = true := by simpa using h.2.2.2.1
  have k5 : (k == 5) = false := by simpa using h.2.2.2.2
  have K5 : (k != 5) = true := by simpa using h.2.2.2.2
  clear h
  have l0 := emp_beq hx
  have l1 := emp_bne hx
  have l2 : ((ba' l).toList == (⟨#[]⟩ : ByteArray).toList) = false := by rw [← beq_toListBytes]; exact l0
  have l3 : ((ba' l).toList != (⟨#[]⟩ : ByteArray).toList) = true := by unfold bne; rw [l2]; rfl
  have l4 : (ba' l).toList.isEmpty = false := by rw [toList_ba]; cases l with | nil => exact absurd rfl hx | cons a l => rfl
  have l5 : (!(ba' l).toList.isEmpty) = true := by rw [l4]; rfl
  clear hx
  go_enter Tryz.func13, Tryz.ntmps13
  go_wp2
  go_ret
  exact ⟨rfl, by repeat (with_reducible (first | exact Below.refl _ _ | apply ba | apply bd | apply bdr | (refine bs ?_ (by first | (simp; done) | (simp; omega))) | (refine bt ?_ (by assumption)) | assumption))⟩
theorem refR_no (k : Int) (w : World) (h : k ≠ 1 ∧ k ≠ 2 ∧ k ≠ 3 ∧ k ≠ 4 ∧ k ≠ 5) : Calls Tryz.prog 13 #[.agg #[.int .i64 k, .int .i64 0, .int .i64 0, .string ⟨#[]⟩, .bool false]] w fun e w' => e = .returned (.bool false) ∧ Below w.heap.size w w' := by
  have k1 : (k == 1) = false := by simpa using h.1
  have K1 : (k != 1) = true := by simpa using h.1
  have k2 : (k == 2) = false := by simpa using h.2.1
  have K2 : (k != 2) = true := by simpa using h.2.1
  have k3 : (k == 3) = false := by simpa using h.2.2.1
  have K3 : (k != 3) = true := by simpa using h.2.2.1
  have k4 : (k == 4) = false := by simpa using h.2.2.2.1
  have K4 : (k != 4) = true := by simpa using h.2.2.2.1
  have k5 : (k == 5) = false := by simpa using h.2.2.2.2
  have K5 : (k != 5) = true := by simpa using h.2.2.2.2
  clear h
  go_enter Tryz.func13, Tryz.ntmps13
  go_wp2
  go_ret
  exact ⟨rfl, by repeat (with_reducible (first | exact Below.refl _ _ | apply ba | apply bd | apply bdr | (refine bs ?_ (by first | (simp; done) | (simp; omega))) | (refine bt ?_ (by assumption)) | assumption))⟩
end Go.Proofs.YtemgabmafmehnaaGreatDoor
