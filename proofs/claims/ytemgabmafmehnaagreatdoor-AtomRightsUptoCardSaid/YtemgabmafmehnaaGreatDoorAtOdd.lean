/- Values with a field that should be empty are refused. No condition beyond what the theorems state. -/
import Derived.Test.YtemgabmafmehnaaGreatDoorAtSmall
import Derived.Test.YtemgabmafmehnaaGreatDoorDeMath
namespace Go.Proofs.YtemgabmafmehnaaGreatDoor
open Go.Shelf Go.RowKit Go.Proofs.Wide
set_option maxRecDepth 100000
set_option maxHeartbeats 16000000
theorem lku {listed : Array Bool} {i j : Nat} {p : Prop} (F : listed.getD j false = true → p) (h : i ≠ j := by decide) : (listed.setIfInBounds i true).getD j false = true → p := fun q => F (ls h q)
theorem cell_callu {w w' : World} {B o : Nat} {v : Value} (h : w.cell? ⟨B, o, none⟩ = some v) (hb : Below w.heap.size w w') : w'.cell? ⟨B, o, none⟩ = some v := ((bcell hb).1 B o (World.block_lt_of_cell? w _ h)).trans h
theorem right_int_c (n c : Int) (l : List UInt8) (b : Bool) (w : World) (hx : c ≠ 0) : Calls Tryz.prog 42 #[.agg #[.int .i64 1, .int .i64 n, .int .i64 c, .string (ba' l), .bool b]] w fun e w' => e = .returned (.bool false) ∧ Below w.heap.size w w' := by
  have hc0 : (c == 0) = false := by simpa using hx
  clear hx
  go_enter Tryz.func42, Tryz.ntmps42
  go_wp2
  go_region_with (first
      | (go_at_call 15; refine (atOf_any n _).mono ?_; rintro e w1 ⟨rfl, hb1⟩; have hc1 := fun o => (bcell hb1).1 w.heap.size o (by first | (simp; done) | assumption | (simp; omega)); have z1 : w.heap.size < w1.heap.size := zz hb1 (by first | (simp; done) | assumption | (simp; omega))))
  all_goals go_wp2
  all_goals go_ret
  all_goals exact ⟨rfl, by repeat (first | exact Below.refl _ _ | assumption | apply ba | apply bd | apply bdr | (refine bs ?_ (by first | (simp; done) | (simp; omega))) | (refine bt ?_ (by assumption)))⟩
theorem right_int_l (n : Int) (l : List UInt8) (b : Bool) (w : World) (hx : l ≠ []) : Calls Tryz.prog 42 #[.agg #[.int .i64 1, .int .i64 n, .int .i64 0, .string (ba' l), .bool b]] w fun e w' => e = .returned (.bool false) ∧ Below w.heap.size w w' := by
  have l2 : ((ba' l).toList == (⟨#[]⟩ : ByteArray).toList) = false := empty_no hx
  have l3 : ((ba' l).toList != (⟨#[]⟩ : ByteArray).toList) = true := by unfold bne; rw [l2]; rfl
  have l4 : (ba' l).toList.isEmpty = false := by rw [toList_ba]; cases l with | nil => exact absurd rfl hx | cons a l => rfl
  have l6 : ¬ (ba' l).toList = [] := by rw [toList_ba]; exact hx
  have l7 : (ba' l == (⟨#[]⟩ : ByteArray)) = false := by rw [beq_toListBytes]; exact l2
  have l8 : ¬ (ba' l) = (⟨#[]⟩ : ByteArray) := fun e => hx (by have := congrArg ByteArray.toList e; rw [toList_ba] at this; rw [this]; exact toList_ba [])
  clear hx
  go_enter Tryz.func42, Tryz.ntmps42
  go_wp2
  go_region_with (first
      | (go_at_call 15; refine (atOf_any n _).mono ?_; rintro e w1 ⟨rfl, hb1⟩; have hc1 := fun o => (bcell hb1).1 w.heap.size o (by first | (simp; done) | assumption | (simp; omega)); have z1 : w.heap.size < w1.heap.size := zz hb1 (by first | (simp; done) | assumption | (simp; omega))))
  all_goals go_wp2
  all_goals go_ret
  all_goals exact ⟨rfl, by repeat (first | exact Below.refl _ _ | assumption | apply ba | apply bd | apply bdr | (refine bs ?_ (by first | (simp; done) | (simp; omega))) | (refine bt ?_ (by assumption)))⟩
theorem right_int_b (n : Int) (w : World) : Calls Tryz.prog 42 #[.agg #[.int .i64 1, .int .i64 n, .int .i64 0, .string ⟨#[]⟩, .bool true]] w fun e w' => e = .returned (.bool false) ∧ Below w.heap.size w w' := by
  go_enter Tryz.func42, Tryz.ntmps42
  go_wp2
  go_region_with (first
      | (go_at_call 15; refine (atOf_any n _).mono ?_; rintro e w1 ⟨rfl, hb1⟩; have hc1 := fun o => (bcell hb1).1 w.heap.size o (by first | (simp; done) | assumption | (simp; omega)); have z1 : w.heap.size < w1.heap.size := zz hb1 (by first | (simp; done) | assumption | (simp; omega))))
  all_goals go_wp2
  all_goals go_ret
  all_goals exact ⟨rfl, by repeat (first | exact Below.refl _ _ | assumption | apply ba | apply bd | apply bdr | (refine bs ?_ (by first | (simp; done) | (simp; omega))) | (refine bt ?_ (by assumption)))⟩
theorem right_dec_l (n c : Int) (l : List UInt8) (b : Bool) (w : World) (hx : l ≠ []) : Calls Tryz.prog 42 #[.agg #[.int .i64 2, .int .i64 n, .int .i64 c, .string (ba' l), .bool b]] w fun e w' => e = .returned (.bool false) ∧ Below w.heap.size w w' := by
  have l2 : ((ba' l).toList == (⟨#[]⟩ : ByteArray).toList) = false := empty_no hx
  have l3 : ((ba' l).toList != (⟨#[]⟩ : ByteArray).toList) = true := by unfold bne; rw [l2]; rfl
  have l4 : (ba' l).toList.isEmpty = false := by rw [toList_ba]; cases l with | nil => exact absurd rfl hx | cons a l => rfl
  have l6 : ¬ (ba' l).toList = [] := by rw [toList_ba]; exact hx
  have l7 : (ba' l == (⟨#[]⟩ : ByteArray)) = false := by rw [beq_toListBytes]; exact l2
  have l8 : ¬ (ba' l) = (⟨#[]⟩ : ByteArray) := fun e => hx (by have := congrArg ByteArray.toList e; rw [toList_ba] at this; rw [this]; exact toList_ba [])
  clear hx
  go_enter Tryz.func42, Tryz.ntmps42
  go_wp2
  go_region_with (first
      | (go_at_call 23; refine (atNum_dec' n c (ba' l) b _).mono ?_; rintro e w1 ⟨rfl, hb1⟩; have hc1 := fun o => (bcell hb1).1 w.heap.size o (by first | (simp; done) | assumption | (simp; omega)); have z1 : w.heap.size < w1.heap.size := zz hb1 (by first | (simp; done) | assumption | (simp; omega)))
      | (go_at_call 20; refine (atNumber_any n c _).mono ?_; rintro e w2 ⟨rfl, hb2⟩; have hc2 := fun o => (bcell hb2).1 w.heap.size o (by first | (simp; done) | assumption | (simp; omega)); have z2 : w.heap.size < w2.heap.size := zz hb2 (by first | (simp; done) | assumption | (simp; omega))))
  all_goals go_wp2
  all_goals go_ret
  all_goals exact ⟨rfl, by repeat (first | exact Below.refl _ _ | assumption | apply ba | apply bd | apply bdr | (refine bs ?_ (by first | (simp; done) | (simp; omega))) | (refine bt ?_ (by assumption)))⟩
theorem right_dec_b (n c : Int) (w : World) : Calls Tryz.prog 42 #[.agg #[.int .i64 2, .int .i64 n, .int .i64 c, .string ⟨#[]⟩, .bool true]] w fun e w' => e = .returned (.bool false) ∧ Below w.heap.size w w' := by
  go_enter Tryz.func42, Tryz.ntmps42
  go_wp2
  go_region_with (first
      | (go_at_call 23; refine (atNum_dec' n c ⟨#[]⟩ true _).mono ?_; rintro e w1 ⟨rfl, hb1⟩; have hc1 := fun o => (bcell hb1).1 w.heap.size o (by first | (simp; done) | assumption | (simp; omega)); have z1 : w.heap.size < w1.heap.size := zz hb1 (by first | (simp; done) | assumption | (simp; omega)))
      | (go_at_call 20; refine (atNumber_any n c _).mono ?_; rintro e w2 ⟨rfl, hb2⟩; have hc2 := fun o => (bcell hb2).1 w.heap.size o (by first | (simp; done) | assumption | (simp; omega)); have z2 : w.heap.size < w2.heap.size := zz hb2 (by first | (simp; done) | assumption | (simp; omega))))
  all_goals go_wp2
  all_goals go_ret
  all_goals exact ⟨rfl, by repeat (first | exact Below.refl _ _ | assumption | apply ba | apply bd | apply bdr | (refine bs ?_ (by first | (simp; done) | (simp; omega))) | (refine bt ?_ (by assumption)))⟩
theorem right_boo_n (n c : Int) (l : List UInt8) (b : Bool) (w : World) (hx : n ≠ 0) : Calls Tryz.prog 42 #[.agg #[.int .i64 4, .int .i64 n, .int .i64 c, .string (ba' l), .bool b]] w fun e w' => e = .returned (.bool false) ∧ Below w.heap.size w w' := by
  have hn0 : (n == 0) = false := by simpa using hx
  clear hx
  go_enter Tryz.func42, Tryz.ntmps42
  go_wp2
  go_region_with (first
      | (go_at_call 19; refine (atTruth_any b _).mono ?_; rintro e w1 ⟨rfl, hb1⟩; have hc1 := fun o => (bcell hb1).1 w.heap.size o (by first | (simp; done) | assumption | (simp; omega)); have z1 : w.heap.size < w1.heap.size := zz hb1 (by first | (simp; done) | assumption | (simp; omega))))
  all_goals go_wp2
  all_goals go_ret
  all_goals exact ⟨rfl, by repeat (first | exact Below.refl _ _ | assumption | apply ba | apply bd | apply bdr | (refine bs ?_ (by first | (simp; done) | (simp; omega))) | (refine bt ?_ (by assumption)))⟩
theorem right_boo_c (c : Int) (l : List UInt8) (b : Bool) (w : World) (hx : c ≠ 0) : Calls Tryz.prog 42 #[.agg #[.int .i64 4, .int .i64 0, .int .i64 c, .string (ba' l), .bool b]] w fun e w' => e = .returned (.bool false) ∧ Below w.heap.size w w' := by
  have hc0 : (c == 0) = false := by simpa using hx
  clear hx
  go_enter Tryz.func42, Tryz.ntmps42
  go_wp2
  go_region_with (first
      | (go_at_call 19; refine (atTruth_any b _).mono ?_; rintro e w1 ⟨rfl, hb1⟩; have hc1 := fun o => (bcell hb1).1 w.heap.size o (by first | (simp; done) | assumption | (simp; omega)); have z1 : w.heap.size < w1.heap.size := zz hb1 (by first | (simp; done) | assumption | (simp; omega))))
  all_goals go_wp2
  all_goals go_ret
  all_goals exact ⟨rfl, by repeat (first | exact Below.refl _ _ | assumption | apply ba | apply bd | apply bdr | (refine bs ?_ (by first | (simp; done) | (simp; omega))) | (refine bt ?_ (by assumption)))⟩
theorem right_boo_l (l : List UInt8) (b : Bool) (w : World) (hx : l ≠ []) : Calls Tryz.prog 42 #[.agg #[.int .i64 4, .int .i64 0, .int .i64 0, .string (ba' l), .bool b]] w fun e w' => e = .returned (.bool false) ∧ Below w.heap.size w w' := by
  have l2 : ((ba' l).toList == (⟨#[]⟩ : ByteArray).toList) = false := empty_no hx
  have l3 : ((ba' l).toList != (⟨#[]⟩ : ByteArray).toList) = true := by unfold bne; rw [l2]; rfl
  have l4 : (ba' l).toList.isEmpty = false := by rw [toList_ba]; cases l with | nil => exact absurd rfl hx | cons a l => rfl
  have l6 : ¬ (ba' l).toList = [] := by rw [toList_ba]; exact hx
  have l7 : (ba' l == (⟨#[]⟩ : ByteArray)) = false := by rw [beq_toListBytes]; exact l2
  have l8 : ¬ (ba' l) = (⟨#[]⟩ : ByteArray) := fun e => hx (by have := congrArg ByteArray.toList e; rw [toList_ba] at this; rw [this]; exact toList_ba [])
  clear hx
  go_enter Tryz.func42, Tryz.ntmps42
  go_wp2
  go_region_with (first
      | (go_at_call 19; refine (atTruth_any b _).mono ?_; rintro e w1 ⟨rfl, hb1⟩; have hc1 := fun o => (bcell hb1).1 w.heap.size o (by first | (simp; done) | assumption | (simp; omega)); have z1 : w.heap.size < w1.heap.size := zz hb1 (by first | (simp; done) | assumption | (simp; omega))))
  all_goals go_wp2
  all_goals go_ret
  all_goals exact ⟨rfl, by repeat (first | exact Below.refl _ _ | assumption | apply ba | apply bd | apply bdr | (refine bs ?_ (by first | (simp; done) | (simp; omega))) | (refine bt ?_ (by assumption)))⟩
theorem right_kind (k n c : Int) (l : List UInt8) (b : Bool) (w : World) (h : k ≠ 1 ∧ k ≠ 2 ∧ k ≠ 3 ∧ k ≠ 4 ∧ k ≠ 5) : Calls Tryz.prog 42 #[.agg #[.int .i64 k, .int .i64 n, .int .i64 c, .string (ba' l), .bool b]] w fun e w' => e = .returned (.bool false) ∧ Below w.heap.size w w' := by
  have h1 : (k == 1) = false := by simpa using h.1
  have h2 : (k == 2) = false := by simpa using h.2.1
  have h3 : (k == 3) = false := by simpa using h.2.2.1
  have h4 : (k == 4) = false := by simpa using h.2.2.2.1
  have h5 : (k == 5) = false := by simpa using h.2.2.2.2
  clear h
  go_enter Tryz.func42, Tryz.ntmps42
  go_wp2
  go_ret
  exact ⟨rfl, by repeat (first | exact Below.refl _ _ | assumption | apply ba | apply bd | apply bdr | (refine bs ?_ (by first | (simp; done) | (simp; omega))) | (refine bt ?_ (by assumption)))⟩
def UstrnI (w0 : World) (l : List UInt8) (ga : Nat) (n : Int) (c : Int) (b : Bool) (c0 c3 c4 c5 c6 c7 c8 c9 c10 c11 c12 c13 c14 c15 c16 c17 c18 c19 c20 c21 c22 c23 c24 c25 c26 c27 c28 c29 c30 c31 c32 c44 c45 c46 c47 c48 c49 c50 c51 c52 c53 c54 c55 c56 c57 c58 c59 c60 c61 c62 c63 : Value) (listed : Array Bool) (A : Act) (w : World) : Prop := ∃ (s2 s33 s34 s35 s36 s37 s38 s39 s40 s41 s42 s43 : Value), A = { tmps := #[c0, .pointer (some ⟨ga, 0, none⟩), s2, c3, c4, c5, c6, c7, c8, c9, c10, c11, c12, c13, c14, c15, c16, c17, c18, c19, c20, c21, c22, c23, c24, c25, c26, c27, c28, c29, c30, c31, c32, s33, s34, s35, s36, s37, s38, s39, s40, s41, s42, s43, c44, c45, c46, c47, c48, c49, c50, c51, c52, c53, c54, c55, c56, c57, c58, c59, c60, c61, c62, c63], defers := [] } ∧
  (listed.getD 0 false = true → s33 = .agg #[.int .i64 3, .int .i64 n, .int .i64 c, .string (ba' l), .bool b]) ∧
  (listed.getD 1 false = true → s34 = .pointer (some ⟨ga, 3, none⟩)) ∧
  (listed.getD 2 false = true → s35 = .string (ba' l)) ∧
  (listed.getD 3 false = true → s36 = .agg #[.int .i64 3, .int .i64 0, .int .i64 0, .string (ba' l), .bool false]) ∧
  (listed.getD 4 false = true → s37 = .bool false) ∧
  (listed.getD 5 false = true → s38 = .bool false) ∧
  (listed.getD 6 false = true → s39 = undef) ∧
  (listed.getD 7 false = true → s40 = undef) ∧
  (listed.getD 8 false = true → s41 = undef) ∧
  (listed.getD 9 false = true → s42 = undef) ∧
  (listed.getD 10 false = true → s43 = .bool false) ∧
  (listed.getD 11 false = true → s2 = .bool false) ∧
  Below w0.heap.size w0 w ∧
  w.cell? ⟨ga, 0, none⟩ = some (.int .i64 3) ∧
  w.cell? ⟨ga, 1, none⟩ = some (.int .i64 n) ∧
  w.cell? ⟨ga, 2, none⟩ = some (.int .i64 c) ∧
  w.cell? ⟨ga, 3, none⟩ = some (.string (ba' l)) ∧
  w.cell? ⟨ga, 4, none⟩ = some (.bool b)
set_option maxRecDepth 100000 in
set_option maxHeartbeats 16000000 in
theorem Ustrn_region (l : List UInt8) (ga : Nat) (n : Int) (c : Int) (b : Bool) (x2 x33 x34 x35 x36 x37 x38 x39 x40 x41 x42 x43 : Value) (c0 c3 c4 c5 c6 c7 c8 c9 c10 c11 c12 c13 c14 c15 c16 c17 c18 c19 c20 c21 c22 c23 c24 c25 c26 c27 c28 c29 c30 c31 c32 c44 c45 c46 c47 c48 c49 c50 c51 c52 c53 c54 c55 c56 c57 c58 c59 c60 c61 c62 c63 : Value) (w0 W : World) (Q : Exit → Act → World → Prop) (hb0 : Below w0.heap.size w0 W) (C0 : W.cell? ⟨ga, 0, none⟩ = some (.int .i64 3)) (C1 : W.cell? ⟨ga, 1, none⟩ = some (.int .i64 n)) (C2 : W.cell? ⟨ga, 2, none⟩ = some (.int .i64 c)) (C3 : W.cell? ⟨ga, 3, none⟩ = some (.string (ba' l))) (C4 : W.cell? ⟨ga, 4, none⟩ = some (.bool b)) (hn0 : (n == 0) = false)
    (hQ : ∀ (w : World) , (True) → Below w0.heap.size w0 w → Q .normal { tmps := #[c0, .pointer (some ⟨ga, 0, none⟩), .bool false, c3, c4, c5, c6, c7, c8, c9, c10, c11, c12, c13, c14, c15, c16, c17, c18, c19, c20, c21, c22, c23, c24, c25, c26, c27, c28, c29, c30, c31, c32, .agg #[.int .i64 3, .int .i64 n, .int .i64 c, .string (ba' l), .bool b], .pointer (some ⟨ga, 3, none⟩), .string (ba' l), .agg #[.int .i64 3, .int .i64 0, .int .i64 0, .string (ba' l), .bool false], .bool false, .bool false, undef, undef, undef, undef, .bool false, c44, c45, c46, c47, c48, c49, c50, c51, c52, c53, c54, c55, c56, c57, c58, c59, c60, c61, c62, c63], defers := [] } w) :
    Code.wp Tryz.prog ((Tryz.f42.body.bind (regionOf 7)).getD .skip) Q { tmps := #[c0, .pointer (some ⟨ga, 0, none⟩), x2, c3, c4, c5, c6, c7, c8, c9, c10, c11, c12, c13, c14, c15, c16, c17, c18, c19, c20, c21, c22, c23, c24, c25, c26, c27, c28, c29, c30, c31, c32, x33, x34, x35, x36, x37, x38, x39, x40, x41, x42, x43, c44, c45, c46, c47, c48, c49, c50, c51, c52, c53, c54, c55, c56, c57, c58, c59, c60, c61, c62, c63], defers := [] } W := by
  conv => arg 2; whnf
  refine wp_region_inv (by kernel_rfl) (by kernel_rfl) (UstrnI w0 l ga n c b c0 c3 c4 c5 c6 c7 c8 c9 c10 c11 c12 c13 c14 c15 c16 c17 c18 c19 c20 c21 c22 c23 c24 c25 c26 c27 c28 c29 c30 c31 c32 c44 c45 c46 c47 c48 c49 c50 c51 c52 c53 c54 c55 c56 c57 c58 c59 c60 c61 c62 c63) ?_ ?_ ?_
  · exact ⟨_, _, _, _, _, _, _, _, _, _, _, _, rfl, fun h => absurd h l0, fun h => absurd h l0, fun h => absurd h l0, fun h => absurd h l0, fun h => absurd h l0, fun h => absurd h l0, fun h => absurd h l0, fun h => absurd h l0, fun h => absurd h l0, fun h => absurd h l0, fun h => absurd h l0, fun h => absurd h l0, bdr hb0, C0, C1, C2, C3, C4⟩
  · intro i o listed A w hi ho hd hn hI
    unfold UstrnI at hI
    obtain ⟨s2, hI⟩ := hI
    obtain ⟨s33, hI⟩ := hI
    obtain ⟨s34, hI⟩ := hI
    obtain ⟨s35, hI⟩ := hI
    obtain ⟨s36, hI⟩ := hI
    obtain ⟨s37, hI⟩ := hI
    obtain ⟨s38, hI⟩ := hI
    obtain ⟨s39, hI⟩ := hI
    obtain ⟨s40, hI⟩ := hI
    obtain ⟨s41, hI⟩ := hI
    obtain ⟨s42, hI⟩ := hI
    obtain ⟨s43, hI⟩ := hI
    obtain ⟨rfl, hI⟩ := hI
    obtain ⟨F0, hI⟩ := hI
    obtain ⟨F1, hI⟩ := hI
    obtain ⟨F2, hI⟩ := hI
    obtain ⟨F3, hI⟩ := hI
    obtain ⟨F4, hI⟩ := hI
    obtain ⟨F5, hI⟩ := hI
    obtain ⟨F6, hI⟩ := hI
    obtain ⟨F7, hI⟩ := hI
    obtain ⟨F8, hI⟩ := hI
    obtain ⟨F9, hI⟩ := hI
    obtain ⟨F10, hI⟩ := hI
    obtain ⟨F11, hI⟩ := hI
    obtain ⟨F12, hI⟩ := hI
    obtain ⟨F13, hI⟩ := hI
    obtain ⟨F14, hI⟩ := hI
    obtain ⟨F15, hI⟩ := hI
    obtain ⟨F16, hI⟩ := hI
    have F17 := hI; clear hI
    have hi' : i < 12 := hi
    clear hi
    rcases (by omega : i = 0 ∨ i = 1 ∨ i = 2 ∨ i = 3 ∨ i = 4 ∨ i = 5 ∨ i = 6 ∨ i = 7 ∨ i = 8 ∨ i = 9 ∨ i = 10 ∨ i = 11) with rfl | rfl | rfl | rfl | rfl | rfl | rfl | rfl | rfl | rfl | rfl | rfl
    · simp only [List.getElem?_toArray, List.getElem?_cons_zero, Option.some.injEq] at ho
      subst ho
      have h0 := F13; have h1 := F14; have h2 := F15; have h3 := F16; have h4 := F17
      refine wpOp_step rfl (fun K hK => ?_)
      go_simp
      refine hK _ _ ?_
      exact ⟨_, _, _, _, _, _, _, _, _, _, _, _, rfl, fun _ => rfl, lku F1, lku F2, lku F3, lku F4, lku F5, lku F6, lku F7, lku F8, lku F9, lku F10, lku F11, F12, F13, F14, F15, F16, F17⟩
    · simp only [List.getElem?_toArray, List.getElem?_cons_zero, List.getElem?_cons_succ, Option.some.injEq] at ho
      subst ho
      refine wpOp_step rfl (fun K hK => ?_)
      go_simp
      refine hK _ _ ?_
      exact ⟨_, _, _, _, _, _, _, _, _, _, _, _, rfl, lku F0, fun _ => rfl, lku F2, lku F3, lku F4, lku F5, lku F6, lku F7, lku F8, lku F9, lku F10, lku F11, F12, F13, F14, F15, F16, F17⟩
    · simp only [List.getElem?_toArray, List.getElem?_cons_zero, List.getElem?_cons_succ, Option.some.injEq] at ho
      subst ho
      obtain rfl := F1 (hd ⟨1, .data⟩ (by simp) rfl)
      have h0 := F13; have h1 := F14; have h2 := F15; have h3 := F16; have h4 := F17
      refine wpOp_step rfl (fun K hK => ?_)
      go_simp
      refine hK _ _ ?_
      exact ⟨_, _, _, _, _, _, _, _, _, _, _, _, rfl, lku F0, lku F1, fun _ => rfl, lku F3, lku F4, lku F5, lku F6, lku F7, lku F8, lku F9, lku F10, lku F11, F12, F13, F14, F15, F16, F17⟩
    · simp only [List.getElem?_toArray, List.getElem?_cons_zero, List.getElem?_cons_succ, Option.some.injEq] at ho
      subst ho
      obtain rfl := F2 (hd ⟨2, .data⟩ (by simp) rfl)
      refine wpOp_step rfl (fun K hK => ?_)
      go_simp
      go_at_call 17
      refine (atText_any l _).mono ?_
      rintro e w' ⟨rfl, hb⟩
      refine hK _ _ ?_
      exact ⟨_, _, _, _, _, _, _, _, _, _, _, _, rfl, lku F0, lku F1, lku F2, fun _ => rfl, lku F4, lku F5, lku F6, lku F7, lku F8, lku F9, lku F10, lku F11, bt F12 hb, cell_callu F13 hb, cell_callu F14 hb, cell_callu F15 hb, cell_callu F16 hb, cell_callu F17 hb⟩
    · simp only [List.getElem?_toArray, List.getElem?_cons_zero, List.getElem?_cons_succ, Option.some.injEq] at ho
      subst ho
      obtain rfl := F0 (hd ⟨0, .data⟩ (by simp) rfl)
      obtain rfl := F3 (hd ⟨3, .data⟩ (by simp) rfl)
      refine wpOp_step rfl (fun K hK => ?_)
      go_simp
      refine hK _ _ ?_
      exact ⟨_, _, _, _, _, _, _, _, _, _, _, _, rfl, lku F0, lku F1, lku F2, lku F3, fun _ => rfl, lku F5, lku F6, lku F7, lku F8, lku F9, lku F10, lku F11, F12, F13, F14, F15, F16, F17⟩
    · simp only [List.getElem?_toArray, List.getElem?_cons_zero, List.getElem?_cons_succ, Option.some.injEq] at ho
      subst ho
      obtain rfl := F4 (hd ⟨4, .data⟩ (by simp) rfl)
      refine wpOp_step rfl (fun K hK => ?_)
      go_simp
      refine hK _ _ ?_
      exact ⟨_, _, _, _, _, _, _, _, _, _, _, _, rfl, lku F0, lku F1, lku F2, lku F3, lku F4, fun _ => rfl, lku F6, lku F7, lku F8, lku F9, lku F10, lku F11, F12, F13, F14, F15, F16, F17⟩
    · simp only [List.getElem?_toArray, List.getElem?_cons_zero, List.getElem?_cons_succ, Option.some.injEq] at ho
      subst ho
      obtain rfl := F5 (hd ⟨5, .guard⟩ (by simp) rfl)
      refine wpOp_step rfl (fun K hK => ?_)
      go_simp
      refine hK _ _ ?_
      exact ⟨_, _, _, _, _, _, _, _, _, _, _, _, rfl, lku F0, lku F1, lku F2, lku F3, lku F4, lku F5, fun _ => rfl, lku F7, lku F8, lku F9, lku F10, lku F11, F12, F13, F14, F15, F16, F17⟩
    · simp only [List.getElem?_toArray, List.getElem?_cons_zero, List.getElem?_cons_succ, Option.some.injEq] at ho
      subst ho
      obtain rfl := F5 (hd ⟨5, .guard⟩ (by simp) rfl)
      refine wpOp_step rfl (fun K hK => ?_)
      go_simp
      refine hK _ _ ?_
      exact ⟨_, _, _, _, _, _, _, _, _, _, _, _, rfl, lku F0, lku F1, lku F2, lku F3, lku F4, lku F5, lku F6, fun _ => rfl, lku F8, lku F9, lku F10, lku F11, F12, F13, F14, F15, F16, F17⟩
    · simp only [List.getElem?_toArray, List.getElem?_cons_zero, List.getElem?_cons_succ, Option.some.injEq] at ho
      subst ho
      obtain rfl := F5 (hd ⟨5, .guard⟩ (by simp) rfl)
      refine wpOp_step rfl (fun K hK => ?_)
      go_simp
      refine hK _ _ ?_
      exact ⟨_, _, _, _, _, _, _, _, _, _, _, _, rfl, lku F0, lku F1, lku F2, lku F3, lku F4, lku F5, lku F6, lku F7, fun _ => rfl, lku F9, lku F10, lku F11, F12, F13, F14, F15, F16, F17⟩
    · simp only [List.getElem?_toArray, List.getElem?_cons_zero, List.getElem?_cons_succ, Option.some.injEq] at ho
      subst ho
      obtain rfl := F5 (hd ⟨5, .guard⟩ (by simp) rfl)
      refine wpOp_step rfl (fun K hK => ?_)
      go_simp
      refine hK _ _ ?_
      exact ⟨_, _, _, _, _, _, _, _, _, _, _, _, rfl, lku F0, lku F1, lku F2, lku F3, lku F4, lku F5, lku F6, lku F7, lku F8, fun _ => rfl, lku F10, lku F11, F12, F13, F14, F15, F16, F17⟩
    · simp only [List.getElem?_toArray, List.getElem?_cons_zero, List.getElem?_cons_succ, Option.some.injEq] at ho
      subst ho
      obtain rfl := F5 (hd ⟨5, .data⟩ (by simp) rfl)
      refine wpOp_step rfl (fun K hK => ?_)
      go_simp
      refine hK _ _ ?_
      exact ⟨_, _, _, _, _, _, _, _, _, _, _, _, rfl, lku F0, lku F1, lku F2, lku F3, lku F4, lku F5, lku F6, lku F7, lku F8, lku F9, fun _ => rfl, lku F11, F12, F13, F14, F15, F16, F17⟩
    · simp only [List.getElem?_toArray, List.getElem?_cons_zero, List.getElem?_cons_succ, Option.some.injEq] at ho
      subst ho
      obtain rfl := F10 (hd ⟨10, .data⟩ (by simp) rfl)
      refine wpOp_step rfl (fun K hK => ?_)
      go_simp
      refine hK _ _ ?_
      exact ⟨_, _, _, _, _, _, _, _, _, _, _, _, rfl, lku F0, lku F1, lku F2, lku F3, lku F4, lku F5, lku F6, lku F7, lku F8, lku F9, lku F10, fun _ => rfl, F12, F13, F14, F15, F16, F17⟩
  · intro listed A w hall hI
    unfold UstrnI at hI
    obtain ⟨s2, hI⟩ := hI
    obtain ⟨s33, hI⟩ := hI
    obtain ⟨s34, hI⟩ := hI
    obtain ⟨s35, hI⟩ := hI
    obtain ⟨s36, hI⟩ := hI
    obtain ⟨s37, hI⟩ := hI
    obtain ⟨s38, hI⟩ := hI
    obtain ⟨s39, hI⟩ := hI
    obtain ⟨s40, hI⟩ := hI
    obtain ⟨s41, hI⟩ := hI
    obtain ⟨s42, hI⟩ := hI
    obtain ⟨s43, hI⟩ := hI
    obtain ⟨rfl, hI⟩ := hI
    obtain ⟨F0, hI⟩ := hI
    obtain ⟨F1, hI⟩ := hI
    obtain ⟨F2, hI⟩ := hI
    obtain ⟨F3, hI⟩ := hI
    obtain ⟨F4, hI⟩ := hI
    obtain ⟨F5, hI⟩ := hI
    obtain ⟨F6, hI⟩ := hI
    obtain ⟨F7, hI⟩ := hI
    obtain ⟨F8, hI⟩ := hI
    obtain ⟨F9, hI⟩ := hI
    obtain ⟨F10, hI⟩ := hI
    obtain ⟨F11, hI⟩ := hI
    obtain ⟨F12, hI⟩ := hI
    obtain ⟨F13, hI⟩ := hI
    obtain ⟨F14, hI⟩ := hI
    obtain ⟨F15, hI⟩ := hI
    obtain ⟨F16, hI⟩ := hI
    have F17 := hI; clear hI
    obtain rfl := F0 (hall 0 (by decide))
    obtain rfl := F1 (hall 1 (by decide))
    obtain rfl := F2 (hall 2 (by decide))
    obtain rfl := F3 (hall 3 (by decide))
    obtain rfl := F4 (hall 4 (by decide))
    obtain rfl := F5 (hall 5 (by decide))
    obtain rfl := F6 (hall 6 (by decide))
    obtain rfl := F7 (hall 7 (by decide))
    obtain rfl := F8 (hall 8 (by decide))
    obtain rfl := F9 (hall 9 (by decide))
    obtain rfl := F10 (hall 10 (by decide))
    obtain rfl := F11 (hall 11 (by decide))
    have HB := F12
    have Q0 := F13
    have Q1 := F14
    have Q2 := F15
    have Q3 := F16
    have Q4 := F17
    exact hQ _ trivial HB
theorem right_str_n (n c : Int) (l : List UInt8) (b : Bool) (w : World) (hx : n ≠ 0) : Calls Tryz.prog 42 #[.agg #[.int .i64 3, .int .i64 n, .int .i64 c, .string (ba' l), .bool b]] w fun e w' => e = .returned (.bool false) ∧ Below w.heap.size w w' := by
  have hn0 : (n == 0) = false := by simpa using hx
  clear hx
  go_enter Tryz.func42, Tryz.ntmps42
  go_upto_region 7 with fail
  refine Ustrn_region l w.heap.size n c b _ _ _ _ _ _ _ _ _ _ _ _ _ _ _ _ _ _ _ _ _ _ _ _ _ _ _ _ _ _ _ _ _ _ _ _ _ _ _ _ _ _ _ _ _ _ _ _ _ _ _ _ _ _ _ _ _ _ _ _ _ _ _ w _ _ (by repeat (with_reducible (first | exact Below.refl _ _ | assumption | apply ba | apply bd | apply bdr | (refine bs ?_ (by first | assumption | (simp; done) | (simp; omega))) | (refine bt ?_ (by assumption))))) (by simp) (by simp) (by simp) (by simp) (by simp) hn0 ?_
  intro w1 _ B1
  go_wp2
  go_ret
  exact ⟨rfl, by repeat (with_reducible (first | exact Below.refl _ _ | assumption | apply ba | apply bd | apply bdr | (refine bs ?_ (by first | assumption | (simp; done) | (simp; omega))) | (refine bt ?_ (by assumption))))⟩
def UstrcI (w0 : World) (l : List UInt8) (ga : Nat) (c : Int) (b : Bool) (c0 c3 c4 c5 c6 c7 c8 c9 c10 c11 c12 c13 c14 c15 c16 c17 c18 c19 c20 c21 c22 c23 c24 c25 c26 c27 c28 c29 c30 c31 c32 c44 c45 c46 c47 c48 c49 c50 c51 c52 c53 c54 c55 c56 c57 c58 c59 c60 c61 c62 c63 : Value) (listed : Array Bool) (A : Act) (w : World) : Prop := ∃ (s2 s33 s34 s35 s36 s37 s38 s39 s40 s41 s42 s43 : Value), A = { tmps := #[c0, .pointer (some ⟨ga, 0, none⟩), s2, c3, c4, c5, c6, c7, c8, c9, c10, c11, c12, c13, c14, c15, c16, c17, c18, c19, c20, c21, c22, c23, c24, c25, c26, c27, c28, c29, c30, c31, c32, s33, s34, s35, s36, s37, s38, s39, s40, s41, s42, s43, c44, c45, c46, c47, c48, c49, c50, c51, c52, c53, c54, c55, c56, c57, c58, c59, c60, c61, c62, c63], defers := [] } ∧
  (listed.getD 0 false = true → s33 = .agg #[.int .i64 3, .int .i64 0, .int .i64 c, .string (ba' l), .bool b]) ∧
  (listed.getD 1 false = true → s34 = .pointer (some ⟨ga, 3, none⟩)) ∧
  (listed.getD 2 false = true → s35 = .string (ba' l)) ∧
  (listed.getD 3 false = true → s36 = .agg #[.int .i64 3, .int .i64 0, .int .i64 0, .string (ba' l), .bool false]) ∧
  (listed.getD 4 false = true → s37 = .bool false) ∧
  (listed.getD 5 false = true → s38 = .bool false) ∧
  (listed.getD 6 false = true → s39 = undef) ∧
  (listed.getD 7 false = true → s40 = undef) ∧
  (listed.getD 8 false = true → s41 = undef) ∧
  (listed.getD 9 false = true → s42 = undef) ∧
  (listed.getD 10 false = true → s43 = .bool false) ∧
  (listed.getD 11 false = true → s2 = .bool false) ∧
  Below w0.heap.size w0 w ∧
  w.cell? ⟨ga, 0, none⟩ = some (.int .i64 3) ∧
  w.cell? ⟨ga, 1, none⟩ = some (.int .i64 0) ∧
  w.cell? ⟨ga, 2, none⟩ = some (.int .i64 c) ∧
  w.cell? ⟨ga, 3, none⟩ = some (.string (ba' l)) ∧
  w.cell? ⟨ga, 4, none⟩ = some (.bool b)
set_option maxRecDepth 100000 in
set_option maxHeartbeats 16000000 in
theorem Ustrc_region (l : List UInt8) (ga : Nat) (c : Int) (b : Bool) (x2 x33 x34 x35 x36 x37 x38 x39 x40 x41 x42 x43 : Value) (c0 c3 c4 c5 c6 c7 c8 c9 c10 c11 c12 c13 c14 c15 c16 c17 c18 c19 c20 c21 c22 c23 c24 c25 c26 c27 c28 c29 c30 c31 c32 c44 c45 c46 c47 c48 c49 c50 c51 c52 c53 c54 c55 c56 c57 c58 c59 c60 c61 c62 c63 : Value) (w0 W : World) (Q : Exit → Act → World → Prop) (hb0 : Below w0.heap.size w0 W) (C0 : W.cell? ⟨ga, 0, none⟩ = some (.int .i64 3)) (C1 : W.cell? ⟨ga, 1, none⟩ = some (.int .i64 0)) (C2 : W.cell? ⟨ga, 2, none⟩ = some (.int .i64 c)) (C3 : W.cell? ⟨ga, 3, none⟩ = some (.string (ba' l))) (C4 : W.cell? ⟨ga, 4, none⟩ = some (.bool b)) (hc0 : (c == 0) = false)
    (hQ : ∀ (w : World) , (True) → Below w0.heap.size w0 w → Q .normal { tmps := #[c0, .pointer (some ⟨ga, 0, none⟩), .bool false, c3, c4, c5, c6, c7, c8, c9, c10, c11, c12, c13, c14, c15, c16, c17, c18, c19, c20, c21, c22, c23, c24, c25, c26, c27, c28, c29, c30, c31, c32, .agg #[.int .i64 3, .int .i64 0, .int .i64 c, .string (ba' l), .bool b], .pointer (some ⟨ga, 3, none⟩), .string (ba' l), .agg #[.int .i64 3, .int .i64 0, .int .i64 0, .string (ba' l), .bool false], .bool false, .bool false, undef, undef, undef, undef, .bool false, c44, c45, c46, c47, c48, c49, c50, c51, c52, c53, c54, c55, c56, c57, c58, c59, c60, c61, c62, c63], defers := [] } w) :
    Code.wp Tryz.prog ((Tryz.f42.body.bind (regionOf 7)).getD .skip) Q { tmps := #[c0, .pointer (some ⟨ga, 0, none⟩), x2, c3, c4, c5, c6, c7, c8, c9, c10, c11, c12, c13, c14, c15, c16, c17, c18, c19, c20, c21, c22, c23, c24, c25, c26, c27, c28, c29, c30, c31, c32, x33, x34, x35, x36, x37, x38, x39, x40, x41, x42, x43, c44, c45, c46, c47, c48, c49, c50, c51, c52, c53, c54, c55, c56, c57, c58, c59, c60, c61, c62, c63], defers := [] } W := by
  conv => arg 2; whnf
  refine wp_region_inv (by kernel_rfl) (by kernel_rfl) (UstrcI w0 l ga c b c0 c3 c4 c5 c6 c7 c8 c9 c10 c11 c12 c13 c14 c15 c16 c17 c18 c19 c20 c21 c22 c23 c24 c25 c26 c27 c28 c29 c30 c31 c32 c44 c45 c46 c47 c48 c49 c50 c51 c52 c53 c54 c55 c56 c57 c58 c59 c60 c61 c62 c63) ?_ ?_ ?_
  · exact ⟨_, _, _, _, _, _, _, _, _, _, _, _, rfl, fun h => absurd h l0, fun h => absurd h l0, fun h => absurd h l0, fun h => absurd h l0, fun h => absurd h l0, fun h => absurd h l0, fun h => absurd h l0, fun h => absurd h l0, fun h => absurd h l0, fun h => absurd h l0, fun h => absurd h l0, fun h => absurd h l0, bdr hb0, C0, C1, C2, C3, C4⟩
  · intro i o listed A w hi ho hd hn hI
    unfold UstrcI at hI
    obtain ⟨s2, hI⟩ := hI
    obtain ⟨s33, hI⟩ := hI
    obtain ⟨s34, hI⟩ := hI
    obtain ⟨s35, hI⟩ := hI
    obtain ⟨s36, hI⟩ := hI
    obtain ⟨s37, hI⟩ := hI
    obtain ⟨s38, hI⟩ := hI
    obtain ⟨s39, hI⟩ := hI
    obtain ⟨s40, hI⟩ := hI
    obtain ⟨s41, hI⟩ := hI
    obtain ⟨s42, hI⟩ := hI
    obtain ⟨s43, hI⟩ := hI
    obtain ⟨rfl, hI⟩ := hI
    obtain ⟨F0, hI⟩ := hI
    obtain ⟨F1, hI⟩ := hI
    obtain ⟨F2, hI⟩ := hI
    obtain ⟨F3, hI⟩ := hI
    obtain ⟨F4, hI⟩ := hI
    obtain ⟨F5, hI⟩ := hI
    obtain ⟨F6, hI⟩ := hI
    obtain ⟨F7, hI⟩ := hI
    obtain ⟨F8, hI⟩ := hI
    obtain ⟨F9, hI⟩ := hI
    obtain ⟨F10, hI⟩ := hI
    obtain ⟨F11, hI⟩ := hI
    obtain ⟨F12, hI⟩ := hI
    obtain ⟨F13, hI⟩ := hI
    obtain ⟨F14, hI⟩ := hI
    obtain ⟨F15, hI⟩ := hI
    obtain ⟨F16, hI⟩ := hI
    have F17 := hI; clear hI
    have hi' : i < 12 := hi
    clear hi
    rcases (by omega : i = 0 ∨ i = 1 ∨ i = 2 ∨ i = 3 ∨ i = 4 ∨ i = 5 ∨ i = 6 ∨ i = 7 ∨ i = 8 ∨ i = 9 ∨ i = 10 ∨ i = 11) with rfl | rfl | rfl | rfl | rfl | rfl | rfl | rfl | rfl | rfl | rfl | rfl
    · simp only [List.getElem?_toArray, List.getElem?_cons_zero, Option.some.injEq] at ho
      subst ho
      have h0 := F13; have h1 := F14; have h2 := F15; have h3 := F16; have h4 := F17
      refine wpOp_step rfl (fun K hK => ?_)
      go_simp
      refine hK _ _ ?_
      exact ⟨_, _, _, _, _, _, _, _, _, _, _, _, rfl, fun _ => rfl, lku F1, lku F2, lku F3, lku F4, lku F5, lku F6, lku F7, lku F8, lku F9, lku F10, lku F11, F12, F13, F14, F15, F16, F17⟩
    · simp only [List.getElem?_toArray, List.getElem?_cons_zero, List.getElem?_cons_succ, Option.some.injEq] at ho
      subst ho
      refine wpOp_step rfl (fun K hK => ?_)
      go_simp
      refine hK _ _ ?_
      exact ⟨_, _, _, _, _, _, _, _, _, _, _, _, rfl, lku F0, fun _ => rfl, lku F2, lku F3, lku F4, lku F5, lku F6, lku F7, lku F8, lku F9, lku F10, lku F11, F12, F13, F14, F15, F16, F17⟩
    · simp only [List.getElem?_toArray, List.getElem?_cons_zero, List.getElem?_cons_succ, Option.some.injEq] at ho
      subst ho
      obtain rfl := F1 (hd ⟨1, .data⟩ (by simp) rfl)
      have h0 := F13; have h1 := F14; have h2 := F15; have h3 := F16; have h4 := F17
      refine wpOp_step rfl (fun K hK => ?_)
      go_simp
      refine hK _ _ ?_
      exact ⟨_, _, _, _, _, _, _, _, _, _, _, _, rfl, lku F0, lku F1, fun _ => rfl, lku F3, lku F4, lku F5, lku F6, lku F7, lku F8, lku F9, lku F10, lku F11, F12, F13, F14, F15, F16, F17⟩
    · simp only [List.getElem?_toArray, List.getElem?_cons_zero, List.getElem?_cons_succ, Option.some.injEq] at ho
      subst ho
      obtain rfl := F2 (hd ⟨2, .data⟩ (by simp) rfl)
      refine wpOp_step rfl (fun K hK => ?_)
      go_simp
      go_at_call 17
      refine (atText_any l _).mono ?_
      rintro e w' ⟨rfl, hb⟩
      refine hK _ _ ?_
      exact ⟨_, _, _, _, _, _, _, _, _, _, _, _, rfl, lku F0, lku F1, lku F2, fun _ => rfl, lku F4, lku F5, lku F6, lku F7, lku F8, lku F9, lku F10, lku F11, bt F12 hb, cell_callu F13 hb, cell_callu F14 hb, cell_callu F15 hb, cell_callu F16 hb, cell_callu F17 hb⟩
    · simp only [List.getElem?_toArray, List.getElem?_cons_zero, List.getElem?_cons_succ, Option.some.injEq] at ho
      subst ho
      obtain rfl := F0 (hd ⟨0, .data⟩ (by simp) rfl)
      obtain rfl := F3 (hd ⟨3, .data⟩ (by simp) rfl)
      refine wpOp_step rfl (fun K hK => ?_)
      go_simp
      refine hK _ _ ?_
      exact ⟨_, _, _, _, _, _, _, _, _, _, _, _, rfl, lku F0, lku F1, lku F2, lku F3, fun _ => rfl, lku F5, lku F6, lku F7, lku F8, lku F9, lku F10, lku F11, F12, F13, F14, F15, F16, F17⟩
    · simp only [List.getElem?_toArray, List.getElem?_cons_zero, List.getElem?_cons_succ, Option.some.injEq] at ho
      subst ho
      obtain rfl := F4 (hd ⟨4, .data⟩ (by simp) rfl)
      refine wpOp_step rfl (fun K hK => ?_)
      go_simp
      refine hK _ _ ?_
      exact ⟨_, _, _, _, _, _, _, _, _, _, _, _, rfl, lku F0, lku F1, lku F2, lku F3, lku F4, fun _ => rfl, lku F6, lku F7, lku F8, lku F9, lku F10, lku F11, F12, F13, F14, F15, F16, F17⟩
    · simp only [List.getElem?_toArray, List.getElem?_cons_zero, List.getElem?_cons_succ, Option.some.injEq] at ho
      subst ho
      obtain rfl := F5 (hd ⟨5, .guard⟩ (by simp) rfl)
      refine wpOp_step rfl (fun K hK => ?_)
      go_simp
      refine hK _ _ ?_
      exact ⟨_, _, _, _, _, _, _, _, _, _, _, _, rfl, lku F0, lku F1, lku F2, lku F3, lku F4, lku F5, fun _ => rfl, lku F7, lku F8, lku F9, lku F10, lku F11, F12, F13, F14, F15, F16, F17⟩
    · simp only [List.getElem?_toArray, List.getElem?_cons_zero, List.getElem?_cons_succ, Option.some.injEq] at ho
      subst ho
      obtain rfl := F5 (hd ⟨5, .guard⟩ (by simp) rfl)
      refine wpOp_step rfl (fun K hK => ?_)
      go_simp
      refine hK _ _ ?_
      exact ⟨_, _, _, _, _, _, _, _, _, _, _, _, rfl, lku F0, lku F1, lku F2, lku F3, lku F4, lku F5, lku F6, fun _ => rfl, lku F8, lku F9, lku F10, lku F11, F12, F13, F14, F15, F16, F17⟩
    · simp only [List.getElem?_toArray, List.getElem?_cons_zero, List.getElem?_cons_succ, Option.some.injEq] at ho
      subst ho
      obtain rfl := F5 (hd ⟨5, .guard⟩ (by simp) rfl)
      refine wpOp_step rfl (fun K hK => ?_)
      go_simp
      refine hK _ _ ?_
      exact ⟨_, _, _, _, _, _, _, _, _, _, _, _, rfl, lku F0, lku F1, lku F2, lku F3, lku F4, lku F5, lku F6, lku F7, fun _ => rfl, lku F9, lku F10, lku F11, F12, F13, F14, F15, F16, F17⟩
    · simp only [List.getElem?_toArray, List.getElem?_cons_zero, List.getElem?_cons_succ, Option.some.injEq] at ho
      subst ho
      obtain rfl := F5 (hd ⟨5, .guard⟩ (by simp) rfl)
      refine wpOp_step rfl (fun K hK => ?_)
      go_simp
      refine hK _ _ ?_
      exact ⟨_, _, _, _, _, _, _, _, _, _, _, _, rfl, lku F0, lku F1, lku F2, lku F3, lku F4, lku F5, lku F6, lku F7, lku F8, fun _ => rfl, lku F10, lku F11, F12, F13, F14, F15, F16, F17⟩
    · simp only [List.getElem?_toArray, List.getElem?_cons_zero, List.getElem?_cons_succ, Option.some.injEq] at ho
      subst ho
      obtain rfl := F5 (hd ⟨5, .data⟩ (by simp) rfl)
      refine wpOp_step rfl (fun K hK => ?_)
      go_simp
      refine hK _ _ ?_
      exact ⟨_, _, _, _, _, _, _, _, _, _, _, _, rfl, lku F0, lku F1, lku F2, lku F3, lku F4, lku F5, lku F6, lku F7, lku F8, lku F9, fun _ => rfl, lku F11, F12, F13, F14, F15, F16, F17⟩
    · simp only [List.getElem?_toArray, List.getElem?_cons_zero, List.getElem?_cons_succ, Option.some.injEq] at ho
      subst ho
      obtain rfl := F10 (hd ⟨10, .data⟩ (by simp) rfl)
      refine wpOp_step rfl (fun K hK => ?_)
      go_simp
      refine hK _ _ ?_
      exact ⟨_, _, _, _, _, _, _, _, _, _, _, _, rfl, lku F0, lku F1, lku F2, lku F3, lku F4, lku F5, lku F6, lku F7, lku F8, lku F9, lku F10, fun _ => rfl, F12, F13, F14, F15, F16, F17⟩
  · intro listed A w hall hI
    unfold UstrcI at hI
    obtain ⟨s2, hI⟩ := hI
    obtain ⟨s33, hI⟩ := hI
    obtain ⟨s34, hI⟩ := hI
    obtain ⟨s35, hI⟩ := hI
    obtain ⟨s36, hI⟩ := hI
    obtain ⟨s37, hI⟩ := hI
    obtain ⟨s38, hI⟩ := hI
    obtain ⟨s39, hI⟩ := hI
    obtain ⟨s40, hI⟩ := hI
    obtain ⟨s41, hI⟩ := hI
    obtain ⟨s42, hI⟩ := hI
    obtain ⟨s43, hI⟩ := hI
    obtain ⟨rfl, hI⟩ := hI
    obtain ⟨F0, hI⟩ := hI
    obtain ⟨F1, hI⟩ := hI
    obtain ⟨F2, hI⟩ := hI
    obtain ⟨F3, hI⟩ := hI
    obtain ⟨F4, hI⟩ := hI
    obtain ⟨F5, hI⟩ := hI
    obtain ⟨F6, hI⟩ := hI
    obtain ⟨F7, hI⟩ := hI
    obtain ⟨F8, hI⟩ := hI
    obtain ⟨F9, hI⟩ := hI
    obtain ⟨F10, hI⟩ := hI
    obtain ⟨F11, hI⟩ := hI
    obtain ⟨F12, hI⟩ := hI
    obtain ⟨F13, hI⟩ := hI
    obtain ⟨F14, hI⟩ := hI
    obtain ⟨F15, hI⟩ := hI
    obtain ⟨F16, hI⟩ := hI
    have F17 := hI; clear hI
    obtain rfl := F0 (hall 0 (by decide))
    obtain rfl := F1 (hall 1 (by decide))
    obtain rfl := F2 (hall 2 (by decide))
    obtain rfl := F3 (hall 3 (by decide))
    obtain rfl := F4 (hall 4 (by decide))
    obtain rfl := F5 (hall 5 (by decide))
    obtain rfl := F6 (hall 6 (by decide))
    obtain rfl := F7 (hall 7 (by decide))
    obtain rfl := F8 (hall 8 (by decide))
    obtain rfl := F9 (hall 9 (by decide))
    obtain rfl := F10 (hall 10 (by decide))
    obtain rfl := F11 (hall 11 (by decide))
    have HB := F12
    have Q0 := F13
    have Q1 := F14
    have Q2 := F15
    have Q3 := F16
    have Q4 := F17
    exact hQ _ trivial HB
theorem right_str_c (c : Int) (l : List UInt8) (b : Bool) (w : World) (hx : c ≠ 0) : Calls Tryz.prog 42 #[.agg #[.int .i64 3, .int .i64 0, .int .i64 c, .string (ba' l), .bool b]] w fun e w' => e = .returned (.bool false) ∧ Below w.heap.size w w' := by
  have hc0 : (c == 0) = false := by simpa using hx
  clear hx
  go_enter Tryz.func42, Tryz.ntmps42
  go_upto_region 7 with fail
  refine Ustrc_region l w.heap.size c b _ _ _ _ _ _ _ _ _ _ _ _ _ _ _ _ _ _ _ _ _ _ _ _ _ _ _ _ _ _ _ _ _ _ _ _ _ _ _ _ _ _ _ _ _ _ _ _ _ _ _ _ _ _ _ _ _ _ _ _ _ _ _ w _ _ (by repeat (with_reducible (first | exact Below.refl _ _ | assumption | apply ba | apply bd | apply bdr | (refine bs ?_ (by first | assumption | (simp; done) | (simp; omega))) | (refine bt ?_ (by assumption))))) (by simp) (by simp) (by simp) (by simp) (by simp) hc0 ?_
  intro w1 _ B1
  go_wp2
  go_ret
  exact ⟨rfl, by repeat (with_reducible (first | exact Below.refl _ _ | assumption | apply ba | apply bd | apply bdr | (refine bs ?_ (by first | assumption | (simp; done) | (simp; omega))) | (refine bt ?_ (by assumption))))⟩
def UstrbI (w0 : World) (l : List UInt8) (ga : Nat) (c0 c3 c4 c5 c6 c7 c8 c9 c10 c11 c12 c13 c14 c15 c16 c17 c18 c19 c20 c21 c22 c23 c24 c25 c26 c27 c28 c29 c30 c31 c32 c44 c45 c46 c47 c48 c49 c50 c51 c52 c53 c54 c55 c56 c57 c58 c59 c60 c61 c62 c63 : Value) (listed : Array Bool) (A : Act) (w : World) : Prop := ∃ (s2 s33 s34 s35 s36 s37 s38 s39 s40 s41 s42 s43 : Value), A = { tmps := #[c0, .pointer (some ⟨ga, 0, none⟩), s2, c3, c4, c5, c6, c7, c8, c9, c10, c11, c12, c13, c14, c15, c16, c17, c18, c19, c20, c21, c22, c23, c24, c25, c26, c27, c28, c29, c30, c31, c32, s33, s34, s35, s36, s37, s38, s39, s40, s41, s42, s43, c44, c45, c46, c47, c48, c49, c50, c51, c52, c53, c54, c55, c56, c57, c58, c59, c60, c61, c62, c63], defers := [] } ∧
  (listed.getD 0 false = true → s33 = .agg #[.int .i64 3, .int .i64 0, .int .i64 0, .string (ba' l), .bool true]) ∧
  (listed.getD 1 false = true → s34 = .pointer (some ⟨ga, 3, none⟩)) ∧
  (listed.getD 2 false = true → s35 = .string (ba' l)) ∧
  (listed.getD 3 false = true → s36 = .agg #[.int .i64 3, .int .i64 0, .int .i64 0, .string (ba' l), .bool false]) ∧
  (listed.getD 4 false = true → s37 = .bool false) ∧
  (listed.getD 5 false = true → s38 = .bool false) ∧
  (listed.getD 6 false = true → s39 = undef) ∧
  (listed.getD 7 false = true → s40 = undef) ∧
  (listed.getD 8 false = true → s41 = undef) ∧
  (listed.getD 9 false = true → s42 = undef) ∧
  (listed.getD 10 false = true → s43 = .bool false) ∧
  (listed.getD 11 false = true → s2 = .bool false) ∧
  Below w0.heap.size w0 w ∧
  w.cell? ⟨ga, 0, none⟩ = some (.int .i64 3) ∧
  w.cell? ⟨ga, 1, none⟩ = some (.int .i64 0) ∧
  w.cell? ⟨ga, 2, none⟩ = some (.int .i64 0) ∧
  w.cell? ⟨ga, 3, none⟩ = some (.string (ba' l)) ∧
  w.cell? ⟨ga, 4, none⟩ = some (.bool true)
set_option maxRecDepth 100000 in
set_option maxHeartbeats 16000000 in
theorem Ustrb_region (l : List UInt8) (ga : Nat) (x2 x33 x34 x35 x36 x37 x38 x39 x40 x41 x42 x43 : Value) (c0 c3 c4 c5 c6 c7 c8 c9 c10 c11 c12 c13 c14 c15 c16 c17 c18 c19 c20 c21 c22 c23 c24 c25 c26 c27 c28 c29 c30 c31 c32 c44 c45 c46 c47 c48 c49 c50 c51 c52 c53 c54 c55 c56 c57 c58 c59 c60 c61 c62 c63 : Value) (w0 W : World) (Q : Exit → Act → World → Prop) (hb0 : Below w0.heap.size w0 W) (C0 : W.cell? ⟨ga, 0, none⟩ = some (.int .i64 3)) (C1 : W.cell? ⟨ga, 1, none⟩ = some (.int .i64 0)) (C2 : W.cell? ⟨ga, 2, none⟩ = some (.int .i64 0)) (C3 : W.cell? ⟨ga, 3, none⟩ = some (.string (ba' l))) (C4 : W.cell? ⟨ga, 4, none⟩ = some (.bool true))
    (hQ : ∀ (w : World) , (True) → Below w0.heap.size w0 w → Q .normal { tmps := #[c0, .pointer (some ⟨ga, 0, none⟩), .bool false, c3, c4, c5, c6, c7, c8, c9, c10, c11, c12, c13, c14, c15, c16, c17, c18, c19, c20, c21, c22, c23, c24, c25, c26, c27, c28, c29, c30, c31, c32, .agg #[.int .i64 3, .int .i64 0, .int .i64 0, .string (ba' l), .bool true], .pointer (some ⟨ga, 3, none⟩), .string (ba' l), .agg #[.int .i64 3, .int .i64 0, .int .i64 0, .string (ba' l), .bool false], .bool false, .bool false, undef, undef, undef, undef, .bool false, c44, c45, c46, c47, c48, c49, c50, c51, c52, c53, c54, c55, c56, c57, c58, c59, c60, c61, c62, c63], defers := [] } w) :
    Code.wp Tryz.prog ((Tryz.f42.body.bind (regionOf 7)).getD .skip) Q { tmps := #[c0, .pointer (some ⟨ga, 0, none⟩), x2, c3, c4, c5, c6, c7, c8, c9, c10, c11, c12, c13, c14, c15, c16, c17, c18, c19, c20, c21, c22, c23, c24, c25, c26, c27, c28, c29, c30, c31, c32, x33, x34, x35, x36, x37, x38, x39, x40, x41, x42, x43, c44, c45, c46, c47, c48, c49, c50, c51, c52, c53, c54, c55, c56, c57, c58, c59, c60, c61, c62, c63], defers := [] } W := by
  conv => arg 2; whnf
  refine wp_region_inv (by kernel_rfl) (by kernel_rfl) (UstrbI w0 l ga c0 c3 c4 c5 c6 c7 c8 c9 c10 c11 c12 c13 c14 c15 c16 c17 c18 c19 c20 c21 c22 c23 c24 c25 c26 c27 c28 c29 c30 c31 c32 c44 c45 c46 c47 c48 c49 c50 c51 c52 c53 c54 c55 c56 c57 c58 c59 c60 c61 c62 c63) ?_ ?_ ?_
  · exact ⟨_, _, _, _, _, _, _, _, _, _, _, _, rfl, fun h => absurd h l0, fun h => absurd h l0, fun h => absurd h l0, fun h => absurd h l0, fun h => absurd h l0, fun h => absurd h l0, fun h => absurd h l0, fun h => absurd h l0, fun h => absurd h l0, fun h => absurd h l0, fun h => absurd h l0, fun h => absurd h l0, bdr hb0, C0, C1, C2, C3, C4⟩
  · intro i o listed A w hi ho hd hn hI
    unfold UstrbI at hI
    obtain ⟨s2, hI⟩ := hI
    obtain ⟨s33, hI⟩ := hI
    obtain ⟨s34, hI⟩ := hI
    obtain ⟨s35, hI⟩ := hI
    obtain ⟨s36, hI⟩ := hI
    obtain ⟨s37, hI⟩ := hI
    obtain ⟨s38, hI⟩ := hI
    obtain ⟨s39, hI⟩ := hI
    obtain ⟨s40, hI⟩ := hI
    obtain ⟨s41, hI⟩ := hI
    obtain ⟨s42, hI⟩ := hI
    obtain ⟨s43, hI⟩ := hI
    obtain ⟨rfl, hI⟩ := hI
    obtain ⟨F0, hI⟩ := hI
    obtain ⟨F1, hI⟩ := hI
    obtain ⟨F2, hI⟩ := hI
    obtain ⟨F3, hI⟩ := hI
    obtain ⟨F4, hI⟩ := hI
    obtain ⟨F5, hI⟩ := hI
    obtain ⟨F6, hI⟩ := hI
    obtain ⟨F7, hI⟩ := hI
    obtain ⟨F8, hI⟩ := hI
    obtain ⟨F9, hI⟩ := hI
    obtain ⟨F10, hI⟩ := hI
    obtain ⟨F11, hI⟩ := hI
    obtain ⟨F12, hI⟩ := hI
    obtain ⟨F13, hI⟩ := hI
    obtain ⟨F14, hI⟩ := hI
    obtain ⟨F15, hI⟩ := hI
    obtain ⟨F16, hI⟩ := hI
    have F17 := hI; clear hI
    have hi' : i < 12 := hi
    clear hi
    rcases (by omega : i = 0 ∨ i = 1 ∨ i = 2 ∨ i = 3 ∨ i = 4 ∨ i = 5 ∨ i = 6 ∨ i = 7 ∨ i = 8 ∨ i = 9 ∨ i = 10 ∨ i = 11) with rfl | rfl | rfl | rfl | rfl | rfl | rfl | rfl | rfl | rfl | rfl | rfl
    · simp only [List.getElem?_toArray, List.getElem?_cons_zero, Option.some.injEq] at ho
      subst ho
      have h0 := F13; have h1 := F14; have h2 := F15; have h3 := F16; have h4 := F17
      refine wpOp_step rfl (fun K hK => ?_)
      go_simp
      refine hK _ _ ?_
      exact ⟨_, _, _, _, _, _, _, _, _, _, _, _, rfl, fun _ => rfl, lku F1, lku F2, lku F3, lku F4, lku F5, lku F6, lku F7, lku F8, lku F9, lku F10, lku F11, F12, F13, F14, F15, F16, F17⟩
    · simp only [List.getElem?_toArray, List.getElem?_cons_zero, List.getElem?_cons_succ, Option.some.injEq] at ho
      subst ho
      refine wpOp_step rfl (fun K hK => ?_)
      go_simp
      refine hK _ _ ?_
      exact ⟨_, _, _, _, _, _, _, _, _, _, _, _, rfl, lku F0, fun _ => rfl, lku F2, lku F3, lku F4, lku F5, lku F6, lku F7, lku F8, lku F9, lku F10, lku F11, F12, F13, F14, F15, F16, F17⟩
    · simp only [List.getElem?_toArray, List.getElem?_cons_zero, List.getElem?_cons_succ, Option.some.injEq] at ho
      subst ho
      obtain rfl := F1 (hd ⟨1, .data⟩ (by simp) rfl)
      have h0 := F13; have h1 := F14; have h2 := F15; have h3 := F16; have h4 := F17
      refine wpOp_step rfl (fun K hK => ?_)
      go_simp
      refine hK _ _ ?_
      exact ⟨_, _, _, _, _, _, _, _, _, _, _, _, rfl, lku F0, lku F1, fun _ => rfl, lku F3, lku F4, lku F5, lku F6, lku F7, lku F8, lku F9, lku F10, lku F11, F12, F13, F14, F15, F16, F17⟩
    · simp only [List.getElem?_toArray, List.getElem?_cons_zero, List.getElem?_cons_succ, Option.some.injEq] at ho
      subst ho
      obtain rfl := F2 (hd ⟨2, .data⟩ (by simp) rfl)
      refine wpOp_step rfl (fun K hK => ?_)
      go_simp
      go_at_call 17
      refine (atText_any l _).mono ?_
      rintro e w' ⟨rfl, hb⟩
      refine hK _ _ ?_
      exact ⟨_, _, _, _, _, _, _, _, _, _, _, _, rfl, lku F0, lku F1, lku F2, fun _ => rfl, lku F4, lku F5, lku F6, lku F7, lku F8, lku F9, lku F10, lku F11, bt F12 hb, cell_callu F13 hb, cell_callu F14 hb, cell_callu F15 hb, cell_callu F16 hb, cell_callu F17 hb⟩
    · simp only [List.getElem?_toArray, List.getElem?_cons_zero, List.getElem?_cons_succ, Option.some.injEq] at ho
      subst ho
      obtain rfl := F0 (hd ⟨0, .data⟩ (by simp) rfl)
      obtain rfl := F3 (hd ⟨3, .data⟩ (by simp) rfl)
      refine wpOp_step rfl (fun K hK => ?_)
      go_simp
      refine hK _ _ ?_
      exact ⟨_, _, _, _, _, _, _, _, _, _, _, _, rfl, lku F0, lku F1, lku F2, lku F3, fun _ => rfl, lku F5, lku F6, lku F7, lku F8, lku F9, lku F10, lku F11, F12, F13, F14, F15, F16, F17⟩
    · simp only [List.getElem?_toArray, List.getElem?_cons_zero, List.getElem?_cons_succ, Option.some.injEq] at ho
      subst ho
      obtain rfl := F4 (hd ⟨4, .data⟩ (by simp) rfl)
      refine wpOp_step rfl (fun K hK => ?_)
      go_simp
      refine hK _ _ ?_
      exact ⟨_, _, _, _, _, _, _, _, _, _, _, _, rfl, lku F0, lku F1, lku F2, lku F3, lku F4, fun _ => rfl, lku F6, lku F7, lku F8, lku F9, lku F10, lku F11, F12, F13, F14, F15, F16, F17⟩
    · simp only [List.getElem?_toArray, List.getElem?_cons_zero, List.getElem?_cons_succ, Option.some.injEq] at ho
      subst ho
      obtain rfl := F5 (hd ⟨5, .guard⟩ (by simp) rfl)
      refine wpOp_step rfl (fun K hK => ?_)
      go_simp
      refine hK _ _ ?_
      exact ⟨_, _, _, _, _, _, _, _, _, _, _, _, rfl, lku F0, lku F1, lku F2, lku F3, lku F4, lku F5, fun _ => rfl, lku F7, lku F8, lku F9, lku F10, lku F11, F12, F13, F14, F15, F16, F17⟩
    · simp only [List.getElem?_toArray, List.getElem?_cons_zero, List.getElem?_cons_succ, Option.some.injEq] at ho
      subst ho
      obtain rfl := F5 (hd ⟨5, .guard⟩ (by simp) rfl)
      refine wpOp_step rfl (fun K hK => ?_)
      go_simp
      refine hK _ _ ?_
      exact ⟨_, _, _, _, _, _, _, _, _, _, _, _, rfl, lku F0, lku F1, lku F2, lku F3, lku F4, lku F5, lku F6, fun _ => rfl, lku F8, lku F9, lku F10, lku F11, F12, F13, F14, F15, F16, F17⟩
    · simp only [List.getElem?_toArray, List.getElem?_cons_zero, List.getElem?_cons_succ, Option.some.injEq] at ho
      subst ho
      obtain rfl := F5 (hd ⟨5, .guard⟩ (by simp) rfl)
      refine wpOp_step rfl (fun K hK => ?_)
      go_simp
      refine hK _ _ ?_
      exact ⟨_, _, _, _, _, _, _, _, _, _, _, _, rfl, lku F0, lku F1, lku F2, lku F3, lku F4, lku F5, lku F6, lku F7, fun _ => rfl, lku F9, lku F10, lku F11, F12, F13, F14, F15, F16, F17⟩
    · simp only [List.getElem?_toArray, List.getElem?_cons_zero, List.getElem?_cons_succ, Option.some.injEq] at ho
      subst ho
      obtain rfl := F5 (hd ⟨5, .guard⟩ (by simp) rfl)
      refine wpOp_step rfl (fun K hK => ?_)
      go_simp
      refine hK _ _ ?_
      exact ⟨_, _, _, _, _, _, _, _, _, _, _, _, rfl, lku F0, lku F1, lku F2, lku F3, lku F4, lku F5, lku F6, lku F7, lku F8, fun _ => rfl, lku F10, lku F11, F12, F13, F14, F15, F16, F17⟩
    · simp only [List.getElem?_toArray, List.getElem?_cons_zero, List.getElem?_cons_succ, Option.some.injEq] at ho
      subst ho
      obtain rfl := F5 (hd ⟨5, .data⟩ (by simp) rfl)
      refine wpOp_step rfl (fun K hK => ?_)
      go_simp
      refine hK _ _ ?_
      exact ⟨_, _, _, _, _, _, _, _, _, _, _, _, rfl, lku F0, lku F1, lku F2, lku F3, lku F4, lku F5, lku F6, lku F7, lku F8, lku F9, fun _ => rfl, lku F11, F12, F13, F14, F15, F16, F17⟩
    · simp only [List.getElem?_toArray, List.getElem?_cons_zero, List.getElem?_cons_succ, Option.some.injEq] at ho
      subst ho
      obtain rfl := F10 (hd ⟨10, .data⟩ (by simp) rfl)
      refine wpOp_step rfl (fun K hK => ?_)
      go_simp
      refine hK _ _ ?_
      exact ⟨_, _, _, _, _, _, _, _, _, _, _, _, rfl, lku F0, lku F1, lku F2, lku F3, lku F4, lku F5, lku F6, lku F7, lku F8, lku F9, lku F10, fun _ => rfl, F12, F13, F14, F15, F16, F17⟩
  · intro listed A w hall hI
    unfold UstrbI at hI
    obtain ⟨s2, hI⟩ := hI
    obtain ⟨s33, hI⟩ := hI
    obtain ⟨s34, hI⟩ := hI
    obtain ⟨s35, hI⟩ := hI
    obtain ⟨s36, hI⟩ := hI
    obtain ⟨s37, hI⟩ := hI
    obtain ⟨s38, hI⟩ := hI
    obtain ⟨s39, hI⟩ := hI
    obtain ⟨s40, hI⟩ := hI
    obtain ⟨s41, hI⟩ := hI
    obtain ⟨s42, hI⟩ := hI
    obtain ⟨s43, hI⟩ := hI
    obtain ⟨rfl, hI⟩ := hI
    obtain ⟨F0, hI⟩ := hI
    obtain ⟨F1, hI⟩ := hI
    obtain ⟨F2, hI⟩ := hI
    obtain ⟨F3, hI⟩ := hI
    obtain ⟨F4, hI⟩ := hI
    obtain ⟨F5, hI⟩ := hI
    obtain ⟨F6, hI⟩ := hI
    obtain ⟨F7, hI⟩ := hI
    obtain ⟨F8, hI⟩ := hI
    obtain ⟨F9, hI⟩ := hI
    obtain ⟨F10, hI⟩ := hI
    obtain ⟨F11, hI⟩ := hI
    obtain ⟨F12, hI⟩ := hI
    obtain ⟨F13, hI⟩ := hI
    obtain ⟨F14, hI⟩ := hI
    obtain ⟨F15, hI⟩ := hI
    obtain ⟨F16, hI⟩ := hI
    have F17 := hI; clear hI
    obtain rfl := F0 (hall 0 (by decide))
    obtain rfl := F1 (hall 1 (by decide))
    obtain rfl := F2 (hall 2 (by decide))
    obtain rfl := F3 (hall 3 (by decide))
    obtain rfl := F4 (hall 4 (by decide))
    obtain rfl := F5 (hall 5 (by decide))
    obtain rfl := F6 (hall 6 (by decide))
    obtain rfl := F7 (hall 7 (by decide))
    obtain rfl := F8 (hall 8 (by decide))
    obtain rfl := F9 (hall 9 (by decide))
    obtain rfl := F10 (hall 10 (by decide))
    obtain rfl := F11 (hall 11 (by decide))
    have HB := F12
    have Q0 := F13
    have Q1 := F14
    have Q2 := F15
    have Q3 := F16
    have Q4 := F17
    exact hQ _ trivial HB
theorem right_str_b (l : List UInt8) (w : World) : Calls Tryz.prog 42 #[.agg #[.int .i64 3, .int .i64 0, .int .i64 0, .string (ba' l), .bool true]] w fun e w' => e = .returned (.bool false) ∧ Below w.heap.size w w' := by
  go_enter Tryz.func42, Tryz.ntmps42
  go_upto_region 7 with fail
  refine Ustrb_region l w.heap.size _ _ _ _ _ _ _ _ _ _ _ _ _ _ _ _ _ _ _ _ _ _ _ _ _ _ _ _ _ _ _ _ _ _ _ _ _ _ _ _ _ _ _ _ _ _ _ _ _ _ _ _ _ _ _ _ _ _ _ _ _ _ _ w _ _ (by repeat (with_reducible (first | exact Below.refl _ _ | assumption | apply ba | apply bd | apply bdr | (refine bs ?_ (by first | assumption | (simp; done) | (simp; omega))) | (refine bt ?_ (by assumption))))) (by simp) (by simp) (by simp) (by simp) (by simp) ?_
  intro w1 _ B1
  go_wp2
  go_ret
  exact ⟨rfl, by repeat (with_reducible (first | exact Below.refl _ _ | assumption | apply ba | apply bd | apply bdr | (refine bs ?_ (by first | assumption | (simp; done) | (simp; omega))) | (refine bt ?_ (by assumption))))⟩
def UrawnI (w0 : World) (l : List UInt8) (ga : Nat) (n : Int) (c : Int) (b : Bool) (c0 c3 c4 c5 c6 c7 c8 c9 c10 c11 c12 c13 c14 c15 c16 c17 c18 c19 c20 c21 c22 c23 c24 c25 c26 c27 c28 c29 c30 c31 c32 c33 c34 c35 c36 c37 c38 c39 c40 c41 c42 c43 c44 c45 c57 c58 c59 c60 c61 c62 c63 : Value) (listed : Array Bool) (A : Act) (w : World) : Prop := ∃ (s2 s46 s47 s48 s49 s50 s51 s52 s53 s54 s55 s56 : Value), A = { tmps := #[c0, .pointer (some ⟨ga, 0, none⟩), s2, c3, c4, c5, c6, c7, c8, c9, c10, c11, c12, c13, c14, c15, c16, c17, c18, c19, c20, c21, c22, c23, c24, c25, c26, c27, c28, c29, c30, c31, c32, c33, c34, c35, c36, c37, c38, c39, c40, c41, c42, c43, c44, c45, s46, s47, s48, s49, s50, s51, s52, s53, s54, s55, s56, c57, c58, c59, c60, c61, c62, c63], defers := [] } ∧
  (listed.getD 0 false = true → s46 = .agg #[.int .i64 5, .int .i64 n, .int .i64 c, .string (ba' l), .bool b]) ∧
  (listed.getD 1 false = true → s47 = .pointer (some ⟨ga, 3, none⟩)) ∧
  (listed.getD 2 false = true → s48 = .string (ba' l)) ∧
  (listed.getD 3 false = true → s49 = .agg #[.int .i64 5, .int .i64 0, .int .i64 0, .string (ba' l), .bool false]) ∧
  (listed.getD 4 false = true → s50 = .bool false) ∧
  (listed.getD 5 false = true → s51 = .bool false) ∧
  (listed.getD 6 false = true → s52 = undef) ∧
  (listed.getD 7 false = true → s53 = undef) ∧
  (listed.getD 8 false = true → s54 = undef) ∧
  (listed.getD 9 false = true → s55 = undef) ∧
  (listed.getD 10 false = true → s56 = .bool false) ∧
  (listed.getD 11 false = true → s2 = .bool false) ∧
  Below w0.heap.size w0 w ∧
  w.cell? ⟨ga, 0, none⟩ = some (.int .i64 5) ∧
  w.cell? ⟨ga, 1, none⟩ = some (.int .i64 n) ∧
  w.cell? ⟨ga, 2, none⟩ = some (.int .i64 c) ∧
  w.cell? ⟨ga, 3, none⟩ = some (.string (ba' l)) ∧
  w.cell? ⟨ga, 4, none⟩ = some (.bool b)
set_option maxRecDepth 100000 in
set_option maxHeartbeats 16000000 in
theorem Urawn_region (l : List UInt8) (ga : Nat) (n : Int) (c : Int) (b : Bool) (x2 x46 x47 x48 x49 x50 x51 x52 x53 x54 x55 x56 : Value) (c0 c3 c4 c5 c6 c7 c8 c9 c10 c11 c12 c13 c14 c15 c16 c17 c18 c19 c20 c21 c22 c23 c24 c25 c26 c27 c28 c29 c30 c31 c32 c33 c34 c35 c36 c37 c38 c39 c40 c41 c42 c43 c44 c45 c57 c58 c59 c60 c61 c62 c63 : Value) (w0 W : World) (Q : Exit → Act → World → Prop) (hb0 : Below w0.heap.size w0 W) (C0 : W.cell? ⟨ga, 0, none⟩ = some (.int .i64 5)) (C1 : W.cell? ⟨ga, 1, none⟩ = some (.int .i64 n)) (C2 : W.cell? ⟨ga, 2, none⟩ = some (.int .i64 c)) (C3 : W.cell? ⟨ga, 3, none⟩ = some (.string (ba' l))) (C4 : W.cell? ⟨ga, 4, none⟩ = some (.bool b)) (hn0 : (n == 0) = false)
    (hQ : ∀ (w : World) , (True) → Below w0.heap.size w0 w → Q .normal { tmps := #[c0, .pointer (some ⟨ga, 0, none⟩), .bool false, c3, c4, c5, c6, c7, c8, c9, c10, c11, c12, c13, c14, c15, c16, c17, c18, c19, c20, c21, c22, c23, c24, c25, c26, c27, c28, c29, c30, c31, c32, c33, c34, c35, c36, c37, c38, c39, c40, c41, c42, c43, c44, c45, .agg #[.int .i64 5, .int .i64 n, .int .i64 c, .string (ba' l), .bool b], .pointer (some ⟨ga, 3, none⟩), .string (ba' l), .agg #[.int .i64 5, .int .i64 0, .int .i64 0, .string (ba' l), .bool false], .bool false, .bool false, undef, undef, undef, undef, .bool false, c57, c58, c59, c60, c61, c62, c63], defers := [] } w) :
    Code.wp Tryz.prog ((Tryz.f42.body.bind (regionOf 9)).getD .skip) Q { tmps := #[c0, .pointer (some ⟨ga, 0, none⟩), x2, c3, c4, c5, c6, c7, c8, c9, c10, c11, c12, c13, c14, c15, c16, c17, c18, c19, c20, c21, c22, c23, c24, c25, c26, c27, c28, c29, c30, c31, c32, c33, c34, c35, c36, c37, c38, c39, c40, c41, c42, c43, c44, c45, x46, x47, x48, x49, x50, x51, x52, x53, x54, x55, x56, c57, c58, c59, c60, c61, c62, c63], defers := [] } W := by
  conv => arg 2; whnf
  refine wp_region_inv (by kernel_rfl) (by kernel_rfl) (UrawnI w0 l ga n c b c0 c3 c4 c5 c6 c7 c8 c9 c10 c11 c12 c13 c14 c15 c16 c17 c18 c19 c20 c21 c22 c23 c24 c25 c26 c27 c28 c29 c30 c31 c32 c33 c34 c35 c36 c37 c38 c39 c40 c41 c42 c43 c44 c45 c57 c58 c59 c60 c61 c62 c63) ?_ ?_ ?_
  · exact ⟨_, _, _, _, _, _, _, _, _, _, _, _, rfl, fun h => absurd h l0, fun h => absurd h l0, fun h => absurd h l0, fun h => absurd h l0, fun h => absurd h l0, fun h => absurd h l0, fun h => absurd h l0, fun h => absurd h l0, fun h => absurd h l0, fun h => absurd h l0, fun h => absurd h l0, fun h => absurd h l0, bdr hb0, C0, C1, C2, C3, C4⟩
  · intro i o listed A w hi ho hd hn hI
    unfold UrawnI at hI
    obtain ⟨s2, hI⟩ := hI
    obtain ⟨s46, hI⟩ := hI
    obtain ⟨s47, hI⟩ := hI
    obtain ⟨s48, hI⟩ := hI
    obtain ⟨s49, hI⟩ := hI
    obtain ⟨s50, hI⟩ := hI
    obtain ⟨s51, hI⟩ := hI
    obtain ⟨s52, hI⟩ := hI
    obtain ⟨s53, hI⟩ := hI
    obtain ⟨s54, hI⟩ := hI
    obtain ⟨s55, hI⟩ := hI
    obtain ⟨s56, hI⟩ := hI
    obtain ⟨rfl, hI⟩ := hI
    obtain ⟨F0, hI⟩ := hI
    obtain ⟨F1, hI⟩ := hI
    obtain ⟨F2, hI⟩ := hI
    obtain ⟨F3, hI⟩ := hI
    obtain ⟨F4, hI⟩ := hI
    obtain ⟨F5, hI⟩ := hI
    obtain ⟨F6, hI⟩ := hI
    obtain ⟨F7, hI⟩ := hI
    obtain ⟨F8, hI⟩ := hI
    obtain ⟨F9, hI⟩ := hI
    obtain ⟨F10, hI⟩ := hI
    obtain ⟨F11, hI⟩ := hI
    obtain ⟨F12, hI⟩ := hI
    obtain ⟨F13, hI⟩ := hI
    obtain ⟨F14, hI⟩ := hI
    obtain ⟨F15, hI⟩ := hI
    obtain ⟨F16, hI⟩ := hI
    have F17 := hI; clear hI
    have hi' : i < 12 := hi
    clear hi
    rcases (by omega : i = 0 ∨ i = 1 ∨ i = 2 ∨ i = 3 ∨ i = 4 ∨ i = 5 ∨ i = 6 ∨ i = 7 ∨ i = 8 ∨ i = 9 ∨ i = 10 ∨ i = 11) with rfl | rfl | rfl | rfl | rfl | rfl | rfl | rfl | rfl | rfl | rfl | rfl
    · simp only [List.getElem?_toArray, List.getElem?_cons_zero, Option.some.injEq] at ho
      subst ho
      have h0 := F13; have h1 := F14; have h2 := F15; have h3 := F16; have h4 := F17
      refine wpOp_step rfl (fun K hK => ?_)
      go_simp
      refine hK _ _ ?_
      exact ⟨_, _, _, _, _, _, _, _, _, _, _, _, rfl, fun _ => rfl, lku F1, lku F2, lku F3, lku F4, lku F5, lku F6, lku F7, lku F8, lku F9, lku F10, lku F11, F12, F13, F14, F15, F16, F17⟩
    · simp only [List.getElem?_toArray, List.getElem?_cons_zero, List.getElem?_cons_succ, Option.some.injEq] at ho
      subst ho
      refine wpOp_step rfl (fun K hK => ?_)
      go_simp
      refine hK _ _ ?_
      exact ⟨_, _, _, _, _, _, _, _, _, _, _, _, rfl, lku F0, fun _ => rfl, lku F2, lku F3, lku F4, lku F5, lku F6, lku F7, lku F8, lku F9, lku F10, lku F11, F12, F13, F14, F15, F16, F17⟩
    · simp only [List.getElem?_toArray, List.getElem?_cons_zero, List.getElem?_cons_succ, Option.some.injEq] at ho
      subst ho
      obtain rfl := F1 (hd ⟨1, .data⟩ (by simp) rfl)
      have h0 := F13; have h1 := F14; have h2 := F15; have h3 := F16; have h4 := F17
      refine wpOp_step rfl (fun K hK => ?_)
      go_simp
      refine hK _ _ ?_
      exact ⟨_, _, _, _, _, _, _, _, _, _, _, _, rfl, lku F0, lku F1, fun _ => rfl, lku F3, lku F4, lku F5, lku F6, lku F7, lku F8, lku F9, lku F10, lku F11, F12, F13, F14, F15, F16, F17⟩
    · simp only [List.getElem?_toArray, List.getElem?_cons_zero, List.getElem?_cons_succ, Option.some.injEq] at ho
      subst ho
      obtain rfl := F2 (hd ⟨2, .data⟩ (by simp) rfl)
      refine wpOp_step rfl (fun K hK => ?_)
      go_simp
      go_at_call 18
      refine (atRaw_any l _).mono ?_
      rintro e w' ⟨rfl, hb⟩
      refine hK _ _ ?_
      exact ⟨_, _, _, _, _, _, _, _, _, _, _, _, rfl, lku F0, lku F1, lku F2, fun _ => rfl, lku F4, lku F5, lku F6, lku F7, lku F8, lku F9, lku F10, lku F11, bt F12 hb, cell_callu F13 hb, cell_callu F14 hb, cell_callu F15 hb, cell_callu F16 hb, cell_callu F17 hb⟩
    · simp only [List.getElem?_toArray, List.getElem?_cons_zero, List.getElem?_cons_succ, Option.some.injEq] at ho
      subst ho
      obtain rfl := F0 (hd ⟨0, .data⟩ (by simp) rfl)
      obtain rfl := F3 (hd ⟨3, .data⟩ (by simp) rfl)
      refine wpOp_step rfl (fun K hK => ?_)
      go_simp
      refine hK _ _ ?_
      exact ⟨_, _, _, _, _, _, _, _, _, _, _, _, rfl, lku F0, lku F1, lku F2, lku F3, fun _ => rfl, lku F5, lku F6, lku F7, lku F8, lku F9, lku F10, lku F11, F12, F13, F14, F15, F16, F17⟩
    · simp only [List.getElem?_toArray, List.getElem?_cons_zero, List.getElem?_cons_succ, Option.some.injEq] at ho
      subst ho
      obtain rfl := F4 (hd ⟨4, .data⟩ (by simp) rfl)
      refine wpOp_step rfl (fun K hK => ?_)
      go_simp
      refine hK _ _ ?_
      exact ⟨_, _, _, _, _, _, _, _, _, _, _, _, rfl, lku F0, lku F1, lku F2, lku F3, lku F4, fun _ => rfl, lku F6, lku F7, lku F8, lku F9, lku F10, lku F11, F12, F13, F14, F15, F16, F17⟩
    · simp only [List.getElem?_toArray, List.getElem?_cons_zero, List.getElem?_cons_succ, Option.some.injEq] at ho
      subst ho
      obtain rfl := F5 (hd ⟨5, .guard⟩ (by simp) rfl)
      refine wpOp_step rfl (fun K hK => ?_)
      go_simp
      refine hK _ _ ?_
      exact ⟨_, _, _, _, _, _, _, _, _, _, _, _, rfl, lku F0, lku F1, lku F2, lku F3, lku F4, lku F5, fun _ => rfl, lku F7, lku F8, lku F9, lku F10, lku F11, F12, F13, F14, F15, F16, F17⟩
    · simp only [List.getElem?_toArray, List.getElem?_cons_zero, List.getElem?_cons_succ, Option.some.injEq] at ho
      subst ho
      obtain rfl := F5 (hd ⟨5, .guard⟩ (by simp) rfl)
      refine wpOp_step rfl (fun K hK => ?_)
      go_simp
      refine hK _ _ ?_
      exact ⟨_, _, _, _, _, _, _, _, _, _, _, _, rfl, lku F0, lku F1, lku F2, lku F3, lku F4, lku F5, lku F6, fun _ => rfl, lku F8, lku F9, lku F10, lku F11, F12, F13, F14, F15, F16, F17⟩
    · simp only [List.getElem?_toArray, List.getElem?_cons_zero, List.getElem?_cons_succ, Option.some.injEq] at ho
      subst ho
      obtain rfl := F5 (hd ⟨5, .guard⟩ (by simp) rfl)
      refine wpOp_step rfl (fun K hK => ?_)
      go_simp
      refine hK _ _ ?_
      exact ⟨_, _, _, _, _, _, _, _, _, _, _, _, rfl, lku F0, lku F1, lku F2, lku F3, lku F4, lku F5, lku F6, lku F7, fun _ => rfl, lku F9, lku F10, lku F11, F12, F13, F14, F15, F16, F17⟩
    · simp only [List.getElem?_toArray, List.getElem?_cons_zero, List.getElem?_cons_succ, Option.some.injEq] at ho
      subst ho
      obtain rfl := F5 (hd ⟨5, .guard⟩ (by simp) rfl)
      refine wpOp_step rfl (fun K hK => ?_)
      go_simp
      refine hK _ _ ?_
      exact ⟨_, _, _, _, _, _, _, _, _, _, _, _, rfl, lku F0, lku F1, lku F2, lku F3, lku F4, lku F5, lku F6, lku F7, lku F8, fun _ => rfl, lku F10, lku F11, F12, F13, F14, F15, F16, F17⟩
    · simp only [List.getElem?_toArray, List.getElem?_cons_zero, List.getElem?_cons_succ, Option.some.injEq] at ho
      subst ho
      obtain rfl := F5 (hd ⟨5, .data⟩ (by simp) rfl)
      refine wpOp_step rfl (fun K hK => ?_)
      go_simp
      refine hK _ _ ?_
      exact ⟨_, _, _, _, _, _, _, _, _, _, _, _, rfl, lku F0, lku F1, lku F2, lku F3, lku F4, lku F5, lku F6, lku F7, lku F8, lku F9, fun _ => rfl, lku F11, F12, F13, F14, F15, F16, F17⟩
    · simp only [List.getElem?_toArray, List.getElem?_cons_zero, List.getElem?_cons_succ, Option.some.injEq] at ho
      subst ho
      obtain rfl := F10 (hd ⟨10, .data⟩ (by simp) rfl)
      refine wpOp_step rfl (fun K hK => ?_)
      go_simp
      refine hK _ _ ?_
      exact ⟨_, _, _, _, _, _, _, _, _, _, _, _, rfl, lku F0, lku F1, lku F2, lku F3, lku F4, lku F5, lku F6, lku F7, lku F8, lku F9, lku F10, fun _ => rfl, F12, F13, F14, F15, F16, F17⟩
  · intro listed A w hall hI
    unfold UrawnI at hI
    obtain ⟨s2, hI⟩ := hI
    obtain ⟨s46, hI⟩ := hI
    obtain ⟨s47, hI⟩ := hI
    obtain ⟨s48, hI⟩ := hI
    obtain ⟨s49, hI⟩ := hI
    obtain ⟨s50, hI⟩ := hI
    obtain ⟨s51, hI⟩ := hI
    obtain ⟨s52, hI⟩ := hI
    obtain ⟨s53, hI⟩ := hI
    obtain ⟨s54, hI⟩ := hI
    obtain ⟨s55, hI⟩ := hI
    obtain ⟨s56, hI⟩ := hI
    obtain ⟨rfl, hI⟩ := hI
    obtain ⟨F0, hI⟩ := hI
    obtain ⟨F1, hI⟩ := hI
    obtain ⟨F2, hI⟩ := hI
    obtain ⟨F3, hI⟩ := hI
    obtain ⟨F4, hI⟩ := hI
    obtain ⟨F5, hI⟩ := hI
    obtain ⟨F6, hI⟩ := hI
    obtain ⟨F7, hI⟩ := hI
    obtain ⟨F8, hI⟩ := hI
    obtain ⟨F9, hI⟩ := hI
    obtain ⟨F10, hI⟩ := hI
    obtain ⟨F11, hI⟩ := hI
    obtain ⟨F12, hI⟩ := hI
    obtain ⟨F13, hI⟩ := hI
    obtain ⟨F14, hI⟩ := hI
    obtain ⟨F15, hI⟩ := hI
    obtain ⟨F16, hI⟩ := hI
    have F17 := hI; clear hI
    obtain rfl := F0 (hall 0 (by decide))
    obtain rfl := F1 (hall 1 (by decide))
    obtain rfl := F2 (hall 2 (by decide))
    obtain rfl := F3 (hall 3 (by decide))
    obtain rfl := F4 (hall 4 (by decide))
    obtain rfl := F5 (hall 5 (by decide))
    obtain rfl := F6 (hall 6 (by decide))
    obtain rfl := F7 (hall 7 (by decide))
    obtain rfl := F8 (hall 8 (by decide))
    obtain rfl := F9 (hall 9 (by decide))
    obtain rfl := F10 (hall 10 (by decide))
    obtain rfl := F11 (hall 11 (by decide))
    have HB := F12
    have Q0 := F13
    have Q1 := F14
    have Q2 := F15
    have Q3 := F16
    have Q4 := F17
    exact hQ _ trivial HB
theorem right_raw_n (n c : Int) (l : List UInt8) (b : Bool) (w : World) (hx : n ≠ 0) : Calls Tryz.prog 42 #[.agg #[.int .i64 5, .int .i64 n, .int .i64 c, .string (ba' l), .bool b]] w fun e w' => e = .returned (.bool false) ∧ Below w.heap.size w w' := by
  have hn0 : (n == 0) = false := by simpa using hx
  clear hx
  go_enter Tryz.func42, Tryz.ntmps42
  go_upto_region 9 with fail
  refine Urawn_region l w.heap.size n c b _ _ _ _ _ _ _ _ _ _ _ _ _ _ _ _ _ _ _ _ _ _ _ _ _ _ _ _ _ _ _ _ _ _ _ _ _ _ _ _ _ _ _ _ _ _ _ _ _ _ _ _ _ _ _ _ _ _ _ _ _ _ _ w _ _ (by repeat (with_reducible (first | exact Below.refl _ _ | assumption | apply ba | apply bd | apply bdr | (refine bs ?_ (by first | assumption | (simp; done) | (simp; omega))) | (refine bt ?_ (by assumption))))) (by simp) (by simp) (by simp) (by simp) (by simp) hn0 ?_
  intro w1 _ B1
  go_wp2
  go_ret
  exact ⟨rfl, by repeat (with_reducible (first | exact Below.refl _ _ | assumption | apply ba | apply bd | apply bdr | (refine bs ?_ (by first | assumption | (simp; done) | (simp; omega))) | (refine bt ?_ (by assumption))))⟩
def UrawcI (w0 : World) (l : List UInt8) (ga : Nat) (c : Int) (b : Bool) (c0 c3 c4 c5 c6 c7 c8 c9 c10 c11 c12 c13 c14 c15 c16 c17 c18 c19 c20 c21 c22 c23 c24 c25 c26 c27 c28 c29 c30 c31 c32 c33 c34 c35 c36 c37 c38 c39 c40 c41 c42 c43 c44 c45 c57 c58 c59 c60 c61 c62 c63 : Value) (listed : Array Bool) (A : Act) (w : World) : Prop := ∃ (s2 s46 s47 s48 s49 s50 s51 s52 s53 s54 s55 s56 : Value), A = { tmps := #[c0, .pointer (some ⟨ga, 0, none⟩), s2, c3, c4, c5, c6, c7, c8, c9, c10, c11, c12, c13, c14, c15, c16, c17, c18, c19, c20, c21, c22, c23, c24, c25, c26, c27, c28, c29, c30, c31, c32, c33, c34, c35, c36, c37, c38, c39, c40, c41, c42, c43, c44, c45, s46, s47, s48, s49, s50, s51, s52, s53, s54, s55, s56, c57, c58, c59, c60, c61, c62, c63], defers := [] } ∧
  (listed.getD 0 false = true → s46 = .agg #[.int .i64 5, .int .i64 0, .int .i64 c, .string (ba' l), .bool b]) ∧
  (listed.getD 1 false = true → s47 = .pointer (some ⟨ga, 3, none⟩)) ∧
  (listed.getD 2 false = true → s48 = .string (ba' l)) ∧
  (listed.getD 3 false = true → s49 = .agg #[.int .i64 5, .int .i64 0, .int .i64 0, .string (ba' l), .bool false]) ∧
  (listed.getD 4 false = true → s50 = .bool false) ∧
  (listed.getD 5 false = true → s51 = .bool false) ∧
  (listed.getD 6 false = true → s52 = undef) ∧
  (listed.getD 7 false = true → s53 = undef) ∧
  (listed.getD 8 false = true → s54 = undef) ∧
  (listed.getD 9 false = true → s55 = undef) ∧
  (listed.getD 10 false = true → s56 = .bool false) ∧
  (listed.getD 11 false = true → s2 = .bool false) ∧
  Below w0.heap.size w0 w ∧
  w.cell? ⟨ga, 0, none⟩ = some (.int .i64 5) ∧
  w.cell? ⟨ga, 1, none⟩ = some (.int .i64 0) ∧
  w.cell? ⟨ga, 2, none⟩ = some (.int .i64 c) ∧
  w.cell? ⟨ga, 3, none⟩ = some (.string (ba' l)) ∧
  w.cell? ⟨ga, 4, none⟩ = some (.bool b)
set_option maxRecDepth 100000 in
set_option maxHeartbeats 16000000 in
theorem Urawc_region (l : List UInt8) (ga : Nat) (c : Int) (b : Bool) (x2 x46 x47 x48 x49 x50 x51 x52 x53 x54 x55 x56 : Value) (c0 c3 c4 c5 c6 c7 c8 c9 c10 c11 c12 c13 c14 c15 c16 c17 c18 c19 c20 c21 c22 c23 c24 c25 c26 c27 c28 c29 c30 c31 c32 c33 c34 c35 c36 c37 c38 c39 c40 c41 c42 c43 c44 c45 c57 c58 c59 c60 c61 c62 c63 : Value) (w0 W : World) (Q : Exit → Act → World → Prop) (hb0 : Below w0.heap.size w0 W) (C0 : W.cell? ⟨ga, 0, none⟩ = some (.int .i64 5)) (C1 : W.cell? ⟨ga, 1, none⟩ = some (.int .i64 0)) (C2 : W.cell? ⟨ga, 2, none⟩ = some (.int .i64 c)) (C3 : W.cell? ⟨ga, 3, none⟩ = some (.string (ba' l))) (C4 : W.cell? ⟨ga, 4, none⟩ = some (.bool b)) (hc0 : (c == 0) = false)
    (hQ : ∀ (w : World) , (True) → Below w0.heap.size w0 w → Q .normal { tmps := #[c0, .pointer (some ⟨ga, 0, none⟩), .bool false, c3, c4, c5, c6, c7, c8, c9, c10, c11, c12, c13, c14, c15, c16, c17, c18, c19, c20, c21, c22, c23, c24, c25, c26, c27, c28, c29, c30, c31, c32, c33, c34, c35, c36, c37, c38, c39, c40, c41, c42, c43, c44, c45, .agg #[.int .i64 5, .int .i64 0, .int .i64 c, .string (ba' l), .bool b], .pointer (some ⟨ga, 3, none⟩), .string (ba' l), .agg #[.int .i64 5, .int .i64 0, .int .i64 0, .string (ba' l), .bool false], .bool false, .bool false, undef, undef, undef, undef, .bool false, c57, c58, c59, c60, c61, c62, c63], defers := [] } w) :
    Code.wp Tryz.prog ((Tryz.f42.body.bind (regionOf 9)).getD .skip) Q { tmps := #[c0, .pointer (some ⟨ga, 0, none⟩), x2, c3, c4, c5, c6, c7, c8, c9, c10, c11, c12, c13, c14, c15, c16, c17, c18, c19, c20, c21, c22, c23, c24, c25, c26, c27, c28, c29, c30, c31, c32, c33, c34, c35, c36, c37, c38, c39, c40, c41, c42, c43, c44, c45, x46, x47, x48, x49, x50, x51, x52, x53, x54, x55, x56, c57, c58, c59, c60, c61, c62, c63], defers := [] } W := by
  conv => arg 2; whnf
  refine wp_region_inv (by kernel_rfl) (by kernel_rfl) (UrawcI w0 l ga c b c0 c3 c4 c5 c6 c7 c8 c9 c10 c11 c12 c13 c14 c15 c16 c17 c18 c19 c20 c21 c22 c23 c24 c25 c26 c27 c28 c29 c30 c31 c32 c33 c34 c35 c36 c37 c38 c39 c40 c41 c42 c43 c44 c45 c57 c58 c59 c60 c61 c62 c63) ?_ ?_ ?_
  · exact ⟨_, _, _, _, _, _, _, _, _, _, _, _, rfl, fun h => absurd h l0, fun h => absurd h l0, fun h => absurd h l0, fun h => absurd h l0, fun h => absurd h l0, fun h => absurd h l0, fun h => absurd h l0, fun h => absurd h l0, fun h => absurd h l0, fun h => absurd h l0, fun h => absurd h l0, fun h => absurd h l0, bdr hb0, C0, C1, C2, C3, C4⟩
  · intro i o listed A w hi ho hd hn hI
    unfold UrawcI at hI
    obtain ⟨s2, hI⟩ := hI
    obtain ⟨s46, hI⟩ := hI
    obtain ⟨s47, hI⟩ := hI
    obtain ⟨s48, hI⟩ := hI
    obtain ⟨s49, hI⟩ := hI
    obtain ⟨s50, hI⟩ := hI
    obtain ⟨s51, hI⟩ := hI
    obtain ⟨s52, hI⟩ := hI
    obtain ⟨s53, hI⟩ := hI
    obtain ⟨s54, hI⟩ := hI
    obtain ⟨s55, hI⟩ := hI
    obtain ⟨s56, hI⟩ := hI
    obtain ⟨rfl, hI⟩ := hI
    obtain ⟨F0, hI⟩ := hI
    obtain ⟨F1, hI⟩ := hI
    obtain ⟨F2, hI⟩ := hI
    obtain ⟨F3, hI⟩ := hI
    obtain ⟨F4, hI⟩ := hI
    obtain ⟨F5, hI⟩ := hI
    obtain ⟨F6, hI⟩ := hI
    obtain ⟨F7, hI⟩ := hI
    obtain ⟨F8, hI⟩ := hI
    obtain ⟨F9, hI⟩ := hI
    obtain ⟨F10, hI⟩ := hI
    obtain ⟨F11, hI⟩ := hI
    obtain ⟨F12, hI⟩ := hI
    obtain ⟨F13, hI⟩ := hI
    obtain ⟨F14, hI⟩ := hI
    obtain ⟨F15, hI⟩ := hI
    obtain ⟨F16, hI⟩ := hI
    have F17 := hI; clear hI
    have hi' : i < 12 := hi
    clear hi
    rcases (by omega : i = 0 ∨ i = 1 ∨ i = 2 ∨ i = 3 ∨ i = 4 ∨ i = 5 ∨ i = 6 ∨ i = 7 ∨ i = 8 ∨ i = 9 ∨ i = 10 ∨ i = 11) with rfl | rfl | rfl | rfl | rfl | rfl | rfl | rfl | rfl | rfl | rfl | rfl
    · simp only [List.getElem?_toArray, List.getElem?_cons_zero, Option.some.injEq] at ho
      subst ho
      have h0 := F13; have h1 := F14; have h2 := F15; have h3 := F16; have h4 := F17
      refine wpOp_step rfl (fun K hK => ?_)
      go_simp
      refine hK _ _ ?_
      exact ⟨_, _, _, _, _, _, _, _, _, _, _, _, rfl, fun _ => rfl, lku F1, lku F2, lku F3, lku F4, lku F5, lku F6, lku F7, lku F8, lku F9, lku F10, lku F11, F12, F13, F14, F15, F16, F17⟩
    · simp only [List.getElem?_toArray, List.getElem?_cons_zero, List.getElem?_cons_succ, Option.some.injEq] at ho
      subst ho
      refine wpOp_step rfl (fun K hK => ?_)
      go_simp
      refine hK _ _ ?_
      exact ⟨_, _, _, _, _, _, _, _, _, _, _, _, rfl, lku F0, fun _ => rfl, lku F2, lku F3, lku F4, lku F5, lku F6, lku F7, lku F8, lku F9, lku F10, lku F11, F12, F13, F14, F15, F16, F17⟩
    · simp only [List.getElem?_toArray, List.getElem?_cons_zero, List.getElem?_cons_succ, Option.some.injEq] at ho
      subst ho
      obtain rfl := F1 (hd ⟨1, .data⟩ (by simp) rfl)
      have h0 := F13; have h1 := F14; have h2 := F15; have h3 := F16; have h4 := F17
      refine wpOp_step rfl (fun K hK => ?_)
      go_simp
      refine hK _ _ ?_
      exact ⟨_, _, _, _, _, _, _, _, _, _, _, _, rfl, lku F0, lku F1, fun _ => rfl, lku F3, lku F4, lku F5, lku F6, lku F7, lku F8, lku F9, lku F10, lku F11, F12, F13, F14, F15, F16, F17⟩
    · simp only [List.getElem?_toArray, List.getElem?_cons_zero, List.getElem?_cons_succ, Option.some.injEq] at ho
      subst ho
      obtain rfl := F2 (hd ⟨2, .data⟩ (by simp) rfl)
      refine wpOp_step rfl (fun K hK => ?_)
      go_simp
      go_at_call 18
      refine (atRaw_any l _).mono ?_
      rintro e w' ⟨rfl, hb⟩
      refine hK _ _ ?_
      exact ⟨_, _, _, _, _, _, _, _, _, _, _, _, rfl, lku F0, lku F1, lku F2, fun _ => rfl, lku F4, lku F5, lku F6, lku F7, lku F8, lku F9, lku F10, lku F11, bt F12 hb, cell_callu F13 hb, cell_callu F14 hb, cell_callu F15 hb, cell_callu F16 hb, cell_callu F17 hb⟩
    · simp only [List.getElem?_toArray, List.getElem?_cons_zero, List.getElem?_cons_succ, Option.some.injEq] at ho
      subst ho
      obtain rfl := F0 (hd ⟨0, .data⟩ (by simp) rfl)
      obtain rfl := F3 (hd ⟨3, .data⟩ (by simp) rfl)
      refine wpOp_step rfl (fun K hK => ?_)
      go_simp
      refine hK _ _ ?_
      exact ⟨_, _, _, _, _, _, _, _, _, _, _, _, rfl, lku F0, lku F1, lku F2, lku F3, fun _ => rfl, lku F5, lku F6, lku F7, lku F8, lku F9, lku F10, lku F11, F12, F13, F14, F15, F16, F17⟩
    · simp only [List.getElem?_toArray, List.getElem?_cons_zero, List.getElem?_cons_succ, Option.some.injEq] at ho
      subst ho
      obtain rfl := F4 (hd ⟨4, .data⟩ (by simp) rfl)
      refine wpOp_step rfl (fun K hK => ?_)
      go_simp
      refine hK _ _ ?_
      exact ⟨_, _, _, _, _, _, _, _, _, _, _, _, rfl, lku F0, lku F1, lku F2, lku F3, lku F4, fun _ => rfl, lku F6, lku F7, lku F8, lku F9, lku F10, lku F11, F12, F13, F14, F15, F16, F17⟩
    · simp only [List.getElem?_toArray, List.getElem?_cons_zero, List.getElem?_cons_succ, Option.some.injEq] at ho
      subst ho
      obtain rfl := F5 (hd ⟨5, .guard⟩ (by simp) rfl)
      refine wpOp_step rfl (fun K hK => ?_)
      go_simp
      refine hK _ _ ?_
      exact ⟨_, _, _, _, _, _, _, _, _, _, _, _, rfl, lku F0, lku F1, lku F2, lku F3, lku F4, lku F5, fun _ => rfl, lku F7, lku F8, lku F9, lku F10, lku F11, F12, F13, F14, F15, F16, F17⟩
    · simp only [List.getElem?_toArray, List.getElem?_cons_zero, List.getElem?_cons_succ, Option.some.injEq] at ho
      subst ho
      obtain rfl := F5 (hd ⟨5, .guard⟩ (by simp) rfl)
      refine wpOp_step rfl (fun K hK => ?_)
      go_simp
      refine hK _ _ ?_
      exact ⟨_, _, _, _, _, _, _, _, _, _, _, _, rfl, lku F0, lku F1, lku F2, lku F3, lku F4, lku F5, lku F6, fun _ => rfl, lku F8, lku F9, lku F10, lku F11, F12, F13, F14, F15, F16, F17⟩
    · simp only [List.getElem?_toArray, List.getElem?_cons_zero, List.getElem?_cons_succ, Option.some.injEq] at ho
      subst ho
      obtain rfl := F5 (hd ⟨5, .guard⟩ (by simp) rfl)
      refine wpOp_step rfl (fun K hK => ?_)
      go_simp
      refine hK _ _ ?_
      exact ⟨_, _, _, _, _, _, _, _, _, _, _, _, rfl, lku F0, lku F1, lku F2, lku F3, lku F4, lku F5, lku F6, lku F7, fun _ => rfl, lku F9, lku F10, lku F11, F12, F13, F14, F15, F16, F17⟩
    · simp only [List.getElem?_toArray, List.getElem?_cons_zero, List.getElem?_cons_succ, Option.some.injEq] at ho
      subst ho
      obtain rfl := F5 (hd ⟨5, .guard⟩ (by simp) rfl)
      refine wpOp_step rfl (fun K hK => ?_)
      go_simp
      refine hK _ _ ?_
      exact ⟨_, _, _, _, _, _, _, _, _, _, _, _, rfl, lku F0, lku F1, lku F2, lku F3, lku F4, lku F5, lku F6, lku F7, lku F8, fun _ => rfl, lku F10, lku F11, F12, F13, F14, F15, F16, F17⟩
    · simp only [List.getElem?_toArray, List.getElem?_cons_zero, List.getElem?_cons_succ, Option.some.injEq] at ho
      subst ho
      obtain rfl := F5 (hd ⟨5, .data⟩ (by simp) rfl)
      refine wpOp_step rfl (fun K hK => ?_)
      go_simp
      refine hK _ _ ?_
      exact ⟨_, _, _, _, _, _, _, _, _, _, _, _, rfl, lku F0, lku F1, lku F2, lku F3, lku F4, lku F5, lku F6, lku F7, lku F8, lku F9, fun _ => rfl, lku F11, F12, F13, F14, F15, F16, F17⟩
    · simp only [List.getElem?_toArray, List.getElem?_cons_zero, List.getElem?_cons_succ, Option.some.injEq] at ho
      subst ho
      obtain rfl := F10 (hd ⟨10, .data⟩ (by simp) rfl)
      refine wpOp_step rfl (fun K hK => ?_)
      go_simp
      refine hK _ _ ?_
      exact ⟨_, _, _, _, _, _, _, _, _, _, _, _, rfl, lku F0, lku F1, lku F2, lku F3, lku F4, lku F5, lku F6, lku F7, lku F8, lku F9, lku F10, fun _ => rfl, F12, F13, F14, F15, F16, F17⟩
  · intro listed A w hall hI
    unfold UrawcI at hI
    obtain ⟨s2, hI⟩ := hI
    obtain ⟨s46, hI⟩ := hI
    obtain ⟨s47, hI⟩ := hI
    obtain ⟨s48, hI⟩ := hI
    obtain ⟨s49, hI⟩ := hI
    obtain ⟨s50, hI⟩ := hI
    obtain ⟨s51, hI⟩ := hI
    obtain ⟨s52, hI⟩ := hI
    obtain ⟨s53, hI⟩ := hI
    obtain ⟨s54, hI⟩ := hI
    obtain ⟨s55, hI⟩ := hI
    obtain ⟨s56, hI⟩ := hI
    obtain ⟨rfl, hI⟩ := hI
    obtain ⟨F0, hI⟩ := hI
    obtain ⟨F1, hI⟩ := hI
    obtain ⟨F2, hI⟩ := hI
    obtain ⟨F3, hI⟩ := hI
    obtain ⟨F4, hI⟩ := hI
    obtain ⟨F5, hI⟩ := hI
    obtain ⟨F6, hI⟩ := hI
    obtain ⟨F7, hI⟩ := hI
    obtain ⟨F8, hI⟩ := hI
    obtain ⟨F9, hI⟩ := hI
    obtain ⟨F10, hI⟩ := hI
    obtain ⟨F11, hI⟩ := hI
    obtain ⟨F12, hI⟩ := hI
    obtain ⟨F13, hI⟩ := hI
    obtain ⟨F14, hI⟩ := hI
    obtain ⟨F15, hI⟩ := hI
    obtain ⟨F16, hI⟩ := hI
    have F17 := hI; clear hI
    obtain rfl := F0 (hall 0 (by decide))
    obtain rfl := F1 (hall 1 (by decide))
    obtain rfl := F2 (hall 2 (by decide))
    obtain rfl := F3 (hall 3 (by decide))
    obtain rfl := F4 (hall 4 (by decide))
    obtain rfl := F5 (hall 5 (by decide))
    obtain rfl := F6 (hall 6 (by decide))
    obtain rfl := F7 (hall 7 (by decide))
    obtain rfl := F8 (hall 8 (by decide))
    obtain rfl := F9 (hall 9 (by decide))
    obtain rfl := F10 (hall 10 (by decide))
    obtain rfl := F11 (hall 11 (by decide))
    have HB := F12
    have Q0 := F13
    have Q1 := F14
    have Q2 := F15
    have Q3 := F16
    have Q4 := F17
    exact hQ _ trivial HB
theorem right_raw_c (c : Int) (l : List UInt8) (b : Bool) (w : World) (hx : c ≠ 0) : Calls Tryz.prog 42 #[.agg #[.int .i64 5, .int .i64 0, .int .i64 c, .string (ba' l), .bool b]] w fun e w' => e = .returned (.bool false) ∧ Below w.heap.size w w' := by
  have hc0 : (c == 0) = false := by simpa using hx
  clear hx
  go_enter Tryz.func42, Tryz.ntmps42
  go_upto_region 9 with fail
  refine Urawc_region l w.heap.size c b _ _ _ _ _ _ _ _ _ _ _ _ _ _ _ _ _ _ _ _ _ _ _ _ _ _ _ _ _ _ _ _ _ _ _ _ _ _ _ _ _ _ _ _ _ _ _ _ _ _ _ _ _ _ _ _ _ _ _ _ _ _ _ w _ _ (by repeat (with_reducible (first | exact Below.refl _ _ | assumption | apply ba | apply bd | apply bdr | (refine bs ?_ (by first | assumption | (simp; done) | (simp; omega))) | (refine bt ?_ (by assumption))))) (by simp) (by simp) (by simp) (by simp) (by simp) hc0 ?_
  intro w1 _ B1
  go_wp2
  go_ret
  exact ⟨rfl, by repeat (with_reducible (first | exact Below.refl _ _ | assumption | apply ba | apply bd | apply bdr | (refine bs ?_ (by first | assumption | (simp; done) | (simp; omega))) | (refine bt ?_ (by assumption))))⟩
def UrawbI (w0 : World) (l : List UInt8) (ga : Nat) (c0 c3 c4 c5 c6 c7 c8 c9 c10 c11 c12 c13 c14 c15 c16 c17 c18 c19 c20 c21 c22 c23 c24 c25 c26 c27 c28 c29 c30 c31 c32 c33 c34 c35 c36 c37 c38 c39 c40 c41 c42 c43 c44 c45 c57 c58 c59 c60 c61 c62 c63 : Value) (listed : Array Bool) (A : Act) (w : World) : Prop := ∃ (s2 s46 s47 s48 s49 s50 s51 s52 s53 s54 s55 s56 : Value), A = { tmps := #[c0, .pointer (some ⟨ga, 0, none⟩), s2, c3, c4, c5, c6, c7, c8, c9, c10, c11, c12, c13, c14, c15, c16, c17, c18, c19, c20, c21, c22, c23, c24, c25, c26, c27, c28, c29, c30, c31, c32, c33, c34, c35, c36, c37, c38, c39, c40, c41, c42, c43, c44, c45, s46, s47, s48, s49, s50, s51, s52, s53, s54, s55, s56, c57, c58, c59, c60, c61, c62, c63], defers := [] } ∧
  (listed.getD 0 false = true → s46 = .agg #[.int .i64 5, .int .i64 0, .int .i64 0, .string (ba' l), .bool true]) ∧
  (listed.getD 1 false = true → s47 = .pointer (some ⟨ga, 3, none⟩)) ∧
  (listed.getD 2 false = true → s48 = .string (ba' l)) ∧
  (listed.getD 3 false = true → s49 = .agg #[.int .i64 5, .int .i64 0, .int .i64 0, .string (ba' l), .bool false]) ∧
  (listed.getD 4 false = true → s50 = .bool false) ∧
  (listed.getD 5 false = true → s51 = .bool false) ∧
  (listed.getD 6 false = true → s52 = undef) ∧
  (listed.getD 7 false = true → s53 = undef) ∧
  (listed.getD 8 false = true → s54 = undef) ∧
  (listed.getD 9 false = true → s55 = undef) ∧
  (listed.getD 10 false = true → s56 = .bool false) ∧
  (listed.getD 11 false = true → s2 = .bool false) ∧
  Below w0.heap.size w0 w ∧
  w.cell? ⟨ga, 0, none⟩ = some (.int .i64 5) ∧
  w.cell? ⟨ga, 1, none⟩ = some (.int .i64 0) ∧
  w.cell? ⟨ga, 2, none⟩ = some (.int .i64 0) ∧
  w.cell? ⟨ga, 3, none⟩ = some (.string (ba' l)) ∧
  w.cell? ⟨ga, 4, none⟩ = some (.bool true)
set_option maxRecDepth 100000 in
set_option maxHeartbeats 16000000 in
theorem Urawb_region (l : List UInt8) (ga : Nat) (x2 x46 x47 x48 x49 x50 x51 x52 x53 x54 x55 x56 : Value) (c0 c3 c4 c5 c6 c7 c8 c9 c10 c11 c12 c13 c14 c15 c16 c17 c18 c19 c20 c21 c22 c23 c24 c25 c26 c27 c28 c29 c30 c31 c32 c33 c34 c35 c36 c37 c38 c39 c40 c41 c42 c43 c44 c45 c57 c58 c59 c60 c61 c62 c63 : Value) (w0 W : World) (Q : Exit → Act → World → Prop) (hb0 : Below w0.heap.size w0 W) (C0 : W.cell? ⟨ga, 0, none⟩ = some (.int .i64 5)) (C1 : W.cell? ⟨ga, 1, none⟩ = some (.int .i64 0)) (C2 : W.cell? ⟨ga, 2, none⟩ = some (.int .i64 0)) (C3 : W.cell? ⟨ga, 3, none⟩ = some (.string (ba' l))) (C4 : W.cell? ⟨ga, 4, none⟩ = some (.bool true))
    (hQ : ∀ (w : World) , (True) → Below w0.heap.size w0 w → Q .normal { tmps := #[c0, .pointer (some ⟨ga, 0, none⟩), .bool false, c3, c4, c5, c6, c7, c8, c9, c10, c11, c12, c13, c14, c15, c16, c17, c18, c19, c20, c21, c22, c23, c24, c25, c26, c27, c28, c29, c30, c31, c32, c33, c34, c35, c36, c37, c38, c39, c40, c41, c42, c43, c44, c45, .agg #[.int .i64 5, .int .i64 0, .int .i64 0, .string (ba' l), .bool true], .pointer (some ⟨ga, 3, none⟩), .string (ba' l), .agg #[.int .i64 5, .int .i64 0, .int .i64 0, .string (ba' l), .bool false], .bool false, .bool false, undef, undef, undef, undef, .bool false, c57, c58, c59, c60, c61, c62, c63], defers := [] } w) :
    Code.wp Tryz.prog ((Tryz.f42.body.bind (regionOf 9)).getD .skip) Q { tmps := #[c0, .pointer (some ⟨ga, 0, none⟩), x2, c3, c4, c5, c6, c7, c8, c9, c10, c11, c12, c13, c14, c15, c16, c17, c18, c19, c20, c21, c22, c23, c24, c25, c26, c27, c28, c29, c30, c31, c32, c33, c34, c35, c36, c37, c38, c39, c40, c41, c42, c43, c44, c45, x46, x47, x48, x49, x50, x51, x52, x53, x54, x55, x56, c57, c58, c59, c60, c61, c62, c63], defers := [] } W := by
  conv => arg 2; whnf
  refine wp_region_inv (by kernel_rfl) (by kernel_rfl) (UrawbI w0 l ga c0 c3 c4 c5 c6 c7 c8 c9 c10 c11 c12 c13 c14 c15 c16 c17 c18 c19 c20 c21 c22 c23 c24 c25 c26 c27 c28 c29 c30 c31 c32 c33 c34 c35 c36 c37 c38 c39 c40 c41 c42 c43 c44 c45 c57 c58 c59 c60 c61 c62 c63) ?_ ?_ ?_
  · exact ⟨_, _, _, _, _, _, _, _, _, _, _, _, rfl, fun h => absurd h l0, fun h => absurd h l0, fun h => absurd h l0, fun h => absurd h l0, fun h => absurd h l0, fun h => absurd h l0, fun h => absurd h l0, fun h => absurd h l0, fun h => absurd h l0, fun h => absurd h l0, fun h => absurd h l0, fun h => absurd h l0, bdr hb0, C0, C1, C2, C3, C4⟩
  · intro i o listed A w hi ho hd hn hI
    unfold UrawbI at hI
    obtain ⟨s2, hI⟩ := hI
    obtain ⟨s46, hI⟩ := hI
    obtain ⟨s47, hI⟩ := hI
    obtain ⟨s48, hI⟩ := hI
    obtain ⟨s49, hI⟩ := hI
    obtain ⟨s50, hI⟩ := hI
    obtain ⟨s51, hI⟩ := hI
    obtain ⟨s52, hI⟩ := hI
    obtain ⟨s53, hI⟩ := hI
    obtain ⟨s54, hI⟩ := hI
    obtain ⟨s55, hI⟩ := hI
    obtain ⟨s56, hI⟩ := hI
    obtain ⟨rfl, hI⟩ := hI
    obtain ⟨F0, hI⟩ := hI
    obtain ⟨F1, hI⟩ := hI
    obtain ⟨F2, hI⟩ := hI
    obtain ⟨F3, hI⟩ := hI
    obtain ⟨F4, hI⟩ := hI
    obtain ⟨F5, hI⟩ := hI
    obtain ⟨F6, hI⟩ := hI
    obtain ⟨F7, hI⟩ := hI
    obtain ⟨F8, hI⟩ := hI
    obtain ⟨F9, hI⟩ := hI
    obtain ⟨F10, hI⟩ := hI
    obtain ⟨F11, hI⟩ := hI
    obtain ⟨F12, hI⟩ := hI
    obtain ⟨F13, hI⟩ := hI
    obtain ⟨F14, hI⟩ := hI
    obtain ⟨F15, hI⟩ := hI
    obtain ⟨F16, hI⟩ := hI
    have F17 := hI; clear hI
    have hi' : i < 12 := hi
    clear hi
    rcases (by omega : i = 0 ∨ i = 1 ∨ i = 2 ∨ i = 3 ∨ i = 4 ∨ i = 5 ∨ i = 6 ∨ i = 7 ∨ i = 8 ∨ i = 9 ∨ i = 10 ∨ i = 11) with rfl | rfl | rfl | rfl | rfl | rfl | rfl | rfl | rfl | rfl | rfl | rfl
    · simp only [List.getElem?_toArray, List.getElem?_cons_zero, Option.some.injEq] at ho
      subst ho
      have h0 := F13; have h1 := F14; have h2 := F15; have h3 := F16; have h4 := F17
      refine wpOp_step rfl (fun K hK => ?_)
      go_simp
      refine hK _ _ ?_
      exact ⟨_, _, _, _, _, _, _, _, _, _, _, _, rfl, fun _ => rfl, lku F1, lku F2, lku F3, lku F4, lku F5, lku F6, lku F7, lku F8, lku F9, lku F10, lku F11, F12, F13, F14, F15, F16, F17⟩
    · simp only [List.getElem?_toArray, List.getElem?_cons_zero, List.getElem?_cons_succ, Option.some.injEq] at ho
      subst ho
      refine wpOp_step rfl (fun K hK => ?_)
      go_simp
      refine hK _ _ ?_
      exact ⟨_, _, _, _, _, _, _, _, _, _, _, _, rfl, lku F0, fun _ => rfl, lku F2, lku F3, lku F4, lku F5, lku F6, lku F7, lku F8, lku F9, lku F10, lku F11, F12, F13, F14, F15, F16, F17⟩
    · simp only [List.getElem?_toArray, List.getElem?_cons_zero, List.getElem?_cons_succ, Option.some.injEq] at ho
      subst ho
      obtain rfl := F1 (hd ⟨1, .data⟩ (by simp) rfl)
      have h0 := F13; have h1 := F14; have h2 := F15; have h3 := F16; have h4 := F17
      refine wpOp_step rfl (fun K hK => ?_)
      go_simp
      refine hK _ _ ?_
      exact ⟨_, _, _, _, _, _, _, _, _, _, _, _, rfl, lku F0, lku F1, fun _ => rfl, lku F3, lku F4, lku F5, lku F6, lku F7, lku F8, lku F9, lku F10, lku F11, F12, F13, F14, F15, F16, F17⟩
    · simp only [List.getElem?_toArray, List.getElem?_cons_zero, List.getElem?_cons_succ, Option.some.injEq] at ho
      subst ho
      obtain rfl := F2 (hd ⟨2, .data⟩ (by simp) rfl)
      refine wpOp_step rfl (fun K hK => ?_)
      go_simp
      go_at_call 18
      refine (atRaw_any l _).mono ?_
      rintro e w' ⟨rfl, hb⟩
      refine hK _ _ ?_
      exact ⟨_, _, _, _, _, _, _, _, _, _, _, _, rfl, lku F0, lku F1, lku F2, fun _ => rfl, lku F4, lku F5, lku F6, lku F7, lku F8, lku F9, lku F10, lku F11, bt F12 hb, cell_callu F13 hb, cell_callu F14 hb, cell_callu F15 hb, cell_callu F16 hb, cell_callu F17 hb⟩
    · simp only [List.getElem?_toArray, List.getElem?_cons_zero, List.getElem?_cons_succ, Option.some.injEq] at ho
      subst ho
      obtain rfl := F0 (hd ⟨0, .data⟩ (by simp) rfl)
      obtain rfl := F3 (hd ⟨3, .data⟩ (by simp) rfl)
      refine wpOp_step rfl (fun K hK => ?_)
      go_simp
      refine hK _ _ ?_
      exact ⟨_, _, _, _, _, _, _, _, _, _, _, _, rfl, lku F0, lku F1, lku F2, lku F3, fun _ => rfl, lku F5, lku F6, lku F7, lku F8, lku F9, lku F10, lku F11, F12, F13, F14, F15, F16, F17⟩
    · simp only [List.getElem?_toArray, List.getElem?_cons_zero, List.getElem?_cons_succ, Option.some.injEq] at ho
      subst ho
      obtain rfl := F4 (hd ⟨4, .data⟩ (by simp) rfl)
      refine wpOp_step rfl (fun K hK => ?_)
      go_simp
      refine hK _ _ ?_
      exact ⟨_, _, _, _, _, _, _, _, _, _, _, _, rfl, lku F0, lku F1, lku F2, lku F3, lku F4, fun _ => rfl, lku F6, lku F7, lku F8, lku F9, lku F10, lku F11, F12, F13, F14, F15, F16, F17⟩
    · simp only [List.getElem?_toArray, List.getElem?_cons_zero, List.getElem?_cons_succ, Option.some.injEq] at ho
      subst ho
      obtain rfl := F5 (hd ⟨5, .guard⟩ (by simp) rfl)
      refine wpOp_step rfl (fun K hK => ?_)
      go_simp
      refine hK _ _ ?_
      exact ⟨_, _, _, _, _, _, _, _, _, _, _, _, rfl, lku F0, lku F1, lku F2, lku F3, lku F4, lku F5, fun _ => rfl, lku F7, lku F8, lku F9, lku F10, lku F11, F12, F13, F14, F15, F16, F17⟩
    · simp only [List.getElem?_toArray, List.getElem?_cons_zero, List.getElem?_cons_succ, Option.some.injEq] at ho
      subst ho
      obtain rfl := F5 (hd ⟨5, .guard⟩ (by simp) rfl)
      refine wpOp_step rfl (fun K hK => ?_)
      go_simp
      refine hK _ _ ?_
      exact ⟨_, _, _, _, _, _, _, _, _, _, _, _, rfl, lku F0, lku F1, lku F2, lku F3, lku F4, lku F5, lku F6, fun _ => rfl, lku F8, lku F9, lku F10, lku F11, F12, F13, F14, F15, F16, F17⟩
    · simp only [List.getElem?_toArray, List.getElem?_cons_zero, List.getElem?_cons_succ, Option.some.injEq] at ho
      subst ho
      obtain rfl := F5 (hd ⟨5, .guard⟩ (by simp) rfl)
      refine wpOp_step rfl (fun K hK => ?_)
      go_simp
      refine hK _ _ ?_
      exact ⟨_, _, _, _, _, _, _, _, _, _, _, _, rfl, lku F0, lku F1, lku F2, lku F3, lku F4, lku F5, lku F6, lku F7, fun _ => rfl, lku F9, lku F10, lku F11, F12, F13, F14, F15, F16, F17⟩
    · simp only [List.getElem?_toArray, List.getElem?_cons_zero, List.getElem?_cons_succ, Option.some.injEq] at ho
      subst ho
      obtain rfl := F5 (hd ⟨5, .guard⟩ (by simp) rfl)
      refine wpOp_step rfl (fun K hK => ?_)
      go_simp
      refine hK _ _ ?_
      exact ⟨_, _, _, _, _, _, _, _, _, _, _, _, rfl, lku F0, lku F1, lku F2, lku F3, lku F4, lku F5, lku F6, lku F7, lku F8, fun _ => rfl, lku F10, lku F11, F12, F13, F14, F15, F16, F17⟩
    · simp only [List.getElem?_toArray, List.getElem?_cons_zero, List.getElem?_cons_succ, Option.some.injEq] at ho
      subst ho
      obtain rfl := F5 (hd ⟨5, .data⟩ (by simp) rfl)
      refine wpOp_step rfl (fun K hK => ?_)
      go_simp
      refine hK _ _ ?_
      exact ⟨_, _, _, _, _, _, _, _, _, _, _, _, rfl, lku F0, lku F1, lku F2, lku F3, lku F4, lku F5, lku F6, lku F7, lku F8, lku F9, fun _ => rfl, lku F11, F12, F13, F14, F15, F16, F17⟩
    · simp only [List.getElem?_toArray, List.getElem?_cons_zero, List.getElem?_cons_succ, Option.some.injEq] at ho
      subst ho
      obtain rfl := F10 (hd ⟨10, .data⟩ (by simp) rfl)
      refine wpOp_step rfl (fun K hK => ?_)
      go_simp
      refine hK _ _ ?_
      exact ⟨_, _, _, _, _, _, _, _, _, _, _, _, rfl, lku F0, lku F1, lku F2, lku F3, lku F4, lku F5, lku F6, lku F7, lku F8, lku F9, lku F10, fun _ => rfl, F12, F13, F14, F15, F16, F17⟩
  · intro listed A w hall hI
    unfold UrawbI at hI
    obtain ⟨s2, hI⟩ := hI
    obtain ⟨s46, hI⟩ := hI
    obtain ⟨s47, hI⟩ := hI
    obtain ⟨s48, hI⟩ := hI
    obtain ⟨s49, hI⟩ := hI
    obtain ⟨s50, hI⟩ := hI
    obtain ⟨s51, hI⟩ := hI
    obtain ⟨s52, hI⟩ := hI
    obtain ⟨s53, hI⟩ := hI
    obtain ⟨s54, hI⟩ := hI
    obtain ⟨s55, hI⟩ := hI
    obtain ⟨s56, hI⟩ := hI
    obtain ⟨rfl, hI⟩ := hI
    obtain ⟨F0, hI⟩ := hI
    obtain ⟨F1, hI⟩ := hI
    obtain ⟨F2, hI⟩ := hI
    obtain ⟨F3, hI⟩ := hI
    obtain ⟨F4, hI⟩ := hI
    obtain ⟨F5, hI⟩ := hI
    obtain ⟨F6, hI⟩ := hI
    obtain ⟨F7, hI⟩ := hI
    obtain ⟨F8, hI⟩ := hI
    obtain ⟨F9, hI⟩ := hI
    obtain ⟨F10, hI⟩ := hI
    obtain ⟨F11, hI⟩ := hI
    obtain ⟨F12, hI⟩ := hI
    obtain ⟨F13, hI⟩ := hI
    obtain ⟨F14, hI⟩ := hI
    obtain ⟨F15, hI⟩ := hI
    obtain ⟨F16, hI⟩ := hI
    have F17 := hI; clear hI
    obtain rfl := F0 (hall 0 (by decide))
    obtain rfl := F1 (hall 1 (by decide))
    obtain rfl := F2 (hall 2 (by decide))
    obtain rfl := F3 (hall 3 (by decide))
    obtain rfl := F4 (hall 4 (by decide))
    obtain rfl := F5 (hall 5 (by decide))
    obtain rfl := F6 (hall 6 (by decide))
    obtain rfl := F7 (hall 7 (by decide))
    obtain rfl := F8 (hall 8 (by decide))
    obtain rfl := F9 (hall 9 (by decide))
    obtain rfl := F10 (hall 10 (by decide))
    obtain rfl := F11 (hall 11 (by decide))
    have HB := F12
    have Q0 := F13
    have Q1 := F14
    have Q2 := F15
    have Q3 := F16
    have Q4 := F17
    exact hQ _ trivial HB
theorem right_raw_b (l : List UInt8) (w : World) : Calls Tryz.prog 42 #[.agg #[.int .i64 5, .int .i64 0, .int .i64 0, .string (ba' l), .bool true]] w fun e w' => e = .returned (.bool false) ∧ Below w.heap.size w w' := by
  go_enter Tryz.func42, Tryz.ntmps42
  go_upto_region 9 with fail
  refine Urawb_region l w.heap.size _ _ _ _ _ _ _ _ _ _ _ _ _ _ _ _ _ _ _ _ _ _ _ _ _ _ _ _ _ _ _ _ _ _ _ _ _ _ _ _ _ _ _ _ _ _ _ _ _ _ _ _ _ _ _ _ _ _ _ _ _ _ _ w _ _ (by repeat (with_reducible (first | exact Below.refl _ _ | assumption | apply ba | apply bd | apply bdr | (refine bs ?_ (by first | assumption | (simp; done) | (simp; omega))) | (refine bt ?_ (by assumption))))) (by simp) (by simp) (by simp) (by simp) (by simp) ?_
  intro w1 _ B1
  go_wp2
  go_ret
  exact ⟨rfl, by repeat (with_reducible (first | exact Below.refl _ _ | assumption | apply ba | apply bd | apply bdr | (refine bs ?_ (by first | assumption | (simp; done) | (simp; omega))) | (refine bt ?_ (by assumption))))⟩
end Go.Proofs.YtemgabmafmehnaaGreatDoor
