/- The reference casts values. No condition beyond what the theorems state. -/
import Derived.Test.YtemgabmafmehnaaGreatDoorAtRefTexts
namespace Go.Proofs.YtemgabmafmehnaaGreatDoor
open Go.Shelf Go.RowKit Go.Proofs.Wide Go.Proofs.Dig
set_option maxRecDepth 100000
set_option maxHeartbeats 4000000
theorem refToBool_int_yes (n : Int) (w : World) (hn : n ≠ 0) : Calls Tryz.prog 49 #[.agg #[.int .i64 1, .int .i64 n, .int .i64 0, .string ⟨#[]⟩, .bool false]] w fun e w' => e = .returned (.tuple #[.agg #[.int .i64 4, .int .i64 0, .int .i64 0, .string ⟨#[]⟩, .bool true], .int .i64 0]) ∧ Below w.heap.size w w' := by
  have hn0 : (n == 0) = false := by simpa using hn
  have hn1 : (n != 0) = true := by simpa using hn
  clear hn
  go_enter Tryz.func49, Tryz.ntmps49
  go_wp2
  exact bodyPost_ret (v := .tuple #[.agg #[.int .i64 4, .int .i64 0, .int .i64 0, .string ⟨#[]⟩, .bool true], .int .i64 0]) (by simp [results, Tryz.results49, go_sem]) rfl ⟨rfl, by repeat (with_reducible (first | exact Below.refl _ _ | apply ba | apply bd | apply bdr | (refine bs ?_ (by first | (simp; done) | (simp; omega))) | (refine bt ?_ (by assumption)) | assumption))⟩
theorem refToBool_int_no  (w : World) : Calls Tryz.prog 49 #[.agg #[.int .i64 1, .int .i64 0, .int .i64 0, .string ⟨#[]⟩, .bool false]] w fun e w' => e = .returned (.tuple #[.agg #[.int .i64 4, .int .i64 0, .int .i64 0, .string ⟨#[]⟩, .bool false], .int .i64 0]) ∧ Below w.heap.size w w' := by
  go_enter Tryz.func49, Tryz.ntmps49
  go_wp2
  exact bodyPost_ret (v := .tuple #[.agg #[.int .i64 4, .int .i64 0, .int .i64 0, .string ⟨#[]⟩, .bool false], .int .i64 0]) (by simp [results, Tryz.results49, go_sem]) rfl ⟨rfl, by repeat (with_reducible (first | exact Below.refl _ _ | apply ba | apply bd | apply bdr | (refine bs ?_ (by first | (simp; done) | (simp; omega))) | (refine bt ?_ (by assumption)) | assumption))⟩
theorem refToBool_dec_yes (n : Int) (c : Int) (w : World) (hn : n ≠ 0) : Calls Tryz.prog 49 #[.agg #[.int .i64 2, .int .i64 n, .int .i64 c, .string ⟨#[]⟩, .bool false]] w fun e w' => e = .returned (.tuple #[.agg #[.int .i64 4, .int .i64 0, .int .i64 0, .string ⟨#[]⟩, .bool true], .int .i64 0]) ∧ Below w.heap.size w w' := by
  have hn0 : (n == 0) = false := by simpa using hn
  have hn1 : (n != 0) = true := by simpa using hn
  clear hn
  go_enter Tryz.func49, Tryz.ntmps49
  go_wp2
  exact bodyPost_ret (v := .tuple #[.agg #[.int .i64 4, .int .i64 0, .int .i64 0, .string ⟨#[]⟩, .bool true], .int .i64 0]) (by simp [results, Tryz.results49, go_sem]) rfl ⟨rfl, by repeat (with_reducible (first | exact Below.refl _ _ | apply ba | apply bd | apply bdr | (refine bs ?_ (by first | (simp; done) | (simp; omega))) | (refine bt ?_ (by assumption)) | assumption))⟩
theorem refToBool_dec_no (c : Int) (w : World) : Calls Tryz.prog 49 #[.agg #[.int .i64 2, .int .i64 0, .int .i64 c, .string ⟨#[]⟩, .bool false]] w fun e w' => e = .returned (.tuple #[.agg #[.int .i64 4, .int .i64 0, .int .i64 0, .string ⟨#[]⟩, .bool false], .int .i64 0]) ∧ Below w.heap.size w w' := by
  go_enter Tryz.func49, Tryz.ntmps49
  go_wp2
  exact bodyPost_ret (v := .tuple #[.agg #[.int .i64 4, .int .i64 0, .int .i64 0, .string ⟨#[]⟩, .bool false], .int .i64 0]) (by simp [results, Tryz.results49, go_sem]) rfl ⟨rfl, by repeat (with_reducible (first | exact Below.refl _ _ | apply ba | apply bd | apply bdr | (refine bs ?_ (by first | (simp; done) | (simp; omega))) | (refine bt ?_ (by assumption)) | assumption))⟩
theorem refToBool_txt3_true (l : List UInt8) (w : World) (HTr : Hid (Gives 50 #[.string (ba' l)] (.string ⟨#[116, 114, 117, 101]⟩))) : Calls Tryz.prog 49 #[.agg #[.int .i64 3, .int .i64 0, .int .i64 0, .string (ba' l), .bool false]] w fun e w' => e = .returned (.tuple #[.agg #[.int .i64 4, .int .i64 0, .int .i64 0, .string ⟨#[]⟩, .bool true], .int .i64 0]) ∧ Below w.heap.size w w' := by
  go_enter Tryz.func49, Tryz.ntmps49
  go_wp2_with (first
    | (go_at_call 50; refine (HTr.out.call _).mono ?_; rintro e w2 ⟨rfl, hb2⟩; have hc2_0 := fun o => (bcell hb2).1 (w.heap.size) o (by first | (simp; done) | assumption | (simp; omega)); have hf2_0 := fun o => (bcell hb2).2 (w.heap.size) o (by first | (simp; done) | assumption | (simp; omega)); have z2_0 : w.heap.size < w2.heap.size := zz hb2 (by first | (simp; done) | assumption | (simp; omega)); have hc2_1 := fun o => (bcell hb2).1 (w.heap.size + 1) o (by first | (simp; done) | assumption | (simp; omega)); have hf2_1 := fun o => (bcell hb2).2 (w.heap.size + 1) o (by first | (simp; done) | assumption | (simp; omega)); have z2_1 : w.heap.size + 1 < w2.heap.size := zz hb2 (by first | (simp; done) | assumption | (simp; omega))))
  exact bodyPost_ret (v := .tuple #[.agg #[.int .i64 4, .int .i64 0, .int .i64 0, .string ⟨#[]⟩, .bool true], .int .i64 0]) (by simp [results, Tryz.results49, go_sem, *]) rfl ⟨rfl, by repeat (with_reducible (first | exact Below.refl _ _ | apply ba | apply bd | apply bdr | (refine bs ?_ (by first | (simp; done) | (simp; omega))) | (refine bt ?_ (by assumption)) | assumption))⟩
theorem refToBool_txt3_one (l : List UInt8) (w : World) (HTr : Hid (Gives 50 #[.string (ba' l)] (.string ⟨#[49]⟩))) : Calls Tryz.prog 49 #[.agg #[.int .i64 3, .int .i64 0, .int .i64 0, .string (ba' l), .bool false]] w fun e w' => e = .returned (.tuple #[.agg #[.int .i64 4, .int .i64 0, .int .i64 0, .string ⟨#[]⟩, .bool true], .int .i64 0]) ∧ Below w.heap.size w w' := by
  go_enter Tryz.func49, Tryz.ntmps49
  go_wp2_with (first
    | (go_at_call 50; refine (HTr.out.call _).mono ?_; rintro e w2 ⟨rfl, hb2⟩; have hc2_0 := fun o => (bcell hb2).1 (w.heap.size) o (by first | (simp; done) | assumption | (simp; omega)); have hf2_0 := fun o => (bcell hb2).2 (w.heap.size) o (by first | (simp; done) | assumption | (simp; omega)); have z2_0 : w.heap.size < w2.heap.size := zz hb2 (by first | (simp; done) | assumption | (simp; omega)); have hc2_1 := fun o => (bcell hb2).1 (w.heap.size + 1) o (by first | (simp; done) | assumption | (simp; omega)); have hf2_1 := fun o => (bcell hb2).2 (w.heap.size + 1) o (by first | (simp; done) | assumption | (simp; omega)); have z2_1 : w.heap.size + 1 < w2.heap.size := zz hb2 (by first | (simp; done) | assumption | (simp; omega))))
  exact bodyPost_ret (v := .tuple #[.agg #[.int .i64 4, .int .i64 0, .int .i64 0, .string ⟨#[]⟩, .bool true], .int .i64 0]) (by simp [results, Tryz.results49, go_sem, *]) rfl ⟨rfl, by repeat (with_reducible (first | exact Below.refl _ _ | apply ba | apply bd | apply bdr | (refine bs ?_ (by first | (simp; done) | (simp; omega))) | (refine bt ?_ (by assumption)) | assumption))⟩
theorem refToBool_txt3_false (l : List UInt8) (w : World) (HTr : Hid (Gives 50 #[.string (ba' l)] (.string ⟨#[102, 97, 108, 115, 101]⟩))) : Calls Tryz.prog 49 #[.agg #[.int .i64 3, .int .i64 0, .int .i64 0, .string (ba' l), .bool false]] w fun e w' => e = .returned (.tuple #[.agg #[.int .i64 4, .int .i64 0, .int .i64 0, .string ⟨#[]⟩, .bool false], .int .i64 0]) ∧ Below w.heap.size w w' := by
  go_enter Tryz.func49, Tryz.ntmps49
  go_wp2_with (first
    | (go_at_call 50; refine (HTr.out.call _).mono ?_; rintro e w2 ⟨rfl, hb2⟩; have hc2_0 := fun o => (bcell hb2).1 (w.heap.size) o (by first | (simp; done) | assumption | (simp; omega)); have hf2_0 := fun o => (bcell hb2).2 (w.heap.size) o (by first | (simp; done) | assumption | (simp; omega)); have z2_0 : w.heap.size < w2.heap.size := zz hb2 (by first | (simp; done) | assumption | (simp; omega)); have hc2_1 := fun o => (bcell hb2).1 (w.heap.size + 1) o (by first | (simp; done) | assumption | (simp; omega)); have hf2_1 := fun o => (bcell hb2).2 (w.heap.size + 1) o (by first | (simp; done) | assumption | (simp; omega)); have z2_1 : w.heap.size + 1 < w2.heap.size := zz hb2 (by first | (simp; done) | assumption | (simp; omega))))
  exact bodyPost_ret (v := .tuple #[.agg #[.int .i64 4, .int .i64 0, .int .i64 0, .string ⟨#[]⟩, .bool false], .int .i64 0]) (by simp [results, Tryz.results49, go_sem, *]) rfl ⟨rfl, by repeat (with_reducible (first | exact Below.refl _ _ | apply ba | apply bd | apply bdr | (refine bs ?_ (by first | (simp; done) | (simp; omega))) | (refine bt ?_ (by assumption)) | assumption))⟩
theorem refToBool_txt3_nought (l : List UInt8) (w : World) (HTr : Hid (Gives 50 #[.string (ba' l)] (.string ⟨#[48]⟩))) : Calls Tryz.prog 49 #[.agg #[.int .i64 3, .int .i64 0, .int .i64 0, .string (ba' l), .bool false]] w fun e w' => e = .returned (.tuple #[.agg #[.int .i64 4, .int .i64 0, .int .i64 0, .string ⟨#[]⟩, .bool false], .int .i64 0]) ∧ Below w.heap.size w w' := by
  go_enter Tryz.func49, Tryz.ntmps49
  go_wp2_with (first
    | (go_at_call 50; refine (HTr.out.call _).mono ?_; rintro e w2 ⟨rfl, hb2⟩; have hc2_0 := fun o => (bcell hb2).1 (w.heap.size) o (by first | (simp; done) | assumption | (simp; omega)); have hf2_0 := fun o => (bcell hb2).2 (w.heap.size) o (by first | (simp; done) | assumption | (simp; omega)); have z2_0 : w.heap.size < w2.heap.size := zz hb2 (by first | (simp; done) | assumption | (simp; omega)); have hc2_1 := fun o => (bcell hb2).1 (w.heap.size + 1) o (by first | (simp; done) | assumption | (simp; omega)); have hf2_1 := fun o => (bcell hb2).2 (w.heap.size + 1) o (by first | (simp; done) | assumption | (simp; omega)); have z2_1 : w.heap.size + 1 < w2.heap.size := zz hb2 (by first | (simp; done) | assumption | (simp; omega))))
  exact bodyPost_ret (v := .tuple #[.agg #[.int .i64 4, .int .i64 0, .int .i64 0, .string ⟨#[]⟩, .bool false], .int .i64 0]) (by simp [results, Tryz.results49, go_sem, *]) rfl ⟨rfl, by repeat (with_reducible (first | exact Below.refl _ _ | apply ba | apply bd | apply bdr | (refine bs ?_ (by first | (simp; done) | (simp; omega))) | (refine bt ?_ (by assumption)) | assumption))⟩
theorem refToBool_txt3_no (l : List UInt8) (u : List UInt8) (w : World) (HTr : Hid (Gives 50 #[.string (ba' l)] (.string (ba' u)))) (h1 : u ≠ [116, 114, 117, 101]) (h2 : u ≠ [49]) (h3 : u ≠ [102, 97, 108, 115, 101]) (h4 : u ≠ [48]) : Calls Tryz.prog 49 #[.agg #[.int .i64 3, .int .i64 0, .int .i64 0, .string (ba' l), .bool false]] w fun e w' => e = .returned (.tuple #[.agg #[.int .i64 0, .int .i64 0, .int .i64 0, .string ⟨#[]⟩, .bool false], .int .i64 50]) ∧ Below w.heap.size w w' := by
  have g1 : ((ba' u).toList == (⟨#[116, 114, 117, 101]⟩ : ByteArray).toList) = false := beq_txt' u [116, 114, 117, 101] false (by simpa using h1)
  have k1 : (ba' u == (⟨#[116, 114, 117, 101]⟩ : ByteArray)) = false := by rw [beq_toListBytes]; exact g1
  have m1 : ((ba' u).toList == [116, 114, 117, 101]) = false := by rw [toList_ba]; simpa using h1
  have g2 : ((ba' u).toList == (⟨#[49]⟩ : ByteArray).toList) = false := beq_txt' u [49] false (by simpa using h2)
  have k2 : (ba' u == (⟨#[49]⟩ : ByteArray)) = false := by rw [beq_toListBytes]; exact g2
  have m2 : ((ba' u).toList == [49]) = false := by rw [toList_ba]; simpa using h2
  have g3 : ((ba' u).toList == (⟨#[102, 97, 108, 115, 101]⟩ : ByteArray).toList) = false := beq_txt' u [102, 97, 108, 115, 101] false (by simpa using h3)
  have k3 : (ba' u == (⟨#[102, 97, 108, 115, 101]⟩ : ByteArray)) = false := by rw [beq_toListBytes]; exact g3
  have m3 : ((ba' u).toList == [102, 97, 108, 115, 101]) = false := by rw [toList_ba]; simpa using h3
  have g4 : ((ba' u).toList == (⟨#[48]⟩ : ByteArray).toList) = false := beq_txt' u [48] false (by simpa using h4)
  have k4 : (ba' u == (⟨#[48]⟩ : ByteArray)) = false := by rw [beq_toListBytes]; exact g4
  have m4 : ((ba' u).toList == [48]) = false := by rw [toList_ba]; simpa using h4
  clear h1 h2 h3 h4
  go_enter Tryz.func49, Tryz.ntmps49
  go_wp2_with (first
    | (go_at_call 50; refine (HTr.out.call _).mono ?_; rintro e w2 ⟨rfl, hb2⟩; have hc2_0 := fun o => (bcell hb2).1 (w.heap.size) o (by first | (simp; done) | assumption | (simp; omega)); have hf2_0 := fun o => (bcell hb2).2 (w.heap.size) o (by first | (simp; done) | assumption | (simp; omega)); have z2_0 : w.heap.size < w2.heap.size := zz hb2 (by first | (simp; done) | assumption | (simp; omega)); have hc2_1 := fun o => (bcell hb2).1 (w.heap.size + 1) o (by first | (simp; done) | assumption | (simp; omega)); have hf2_1 := fun o => (bcell hb2).2 (w.heap.size + 1) o (by first | (simp; done) | assumption | (simp; omega)); have z2_1 : w.heap.size + 1 < w2.heap.size := zz hb2 (by first | (simp; done) | assumption | (simp; omega))))
  exact bodyPost_ret (v := .tuple #[.agg #[.int .i64 0, .int .i64 0, .int .i64 0, .string ⟨#[]⟩, .bool false], .int .i64 50]) (by simp [results, Tryz.results49, go_sem, *]) rfl ⟨rfl, by repeat (with_reducible (first | exact Below.refl _ _ | apply ba | apply bd | apply bdr | (refine bs ?_ (by first | (simp; done) | (simp; omega))) | (refine bt ?_ (by assumption)) | assumption))⟩
theorem refToBool_txt5_true (l : List UInt8) (w : World) (HTr : Hid (Gives 50 #[.string (ba' l)] (.string ⟨#[116, 114, 117, 101]⟩))) : Calls Tryz.prog 49 #[.agg #[.int .i64 5, .int .i64 0, .int .i64 0, .string (ba' l), .bool false]] w fun e w' => e = .returned (.tuple #[.agg #[.int .i64 4, .int .i64 0, .int .i64 0, .string ⟨#[]⟩, .bool true], .int .i64 0]) ∧ Below w.heap.size w w' := by
  go_enter Tryz.func49, Tryz.ntmps49
  go_wp2_with (first
    | (go_at_call 50; refine (HTr.out.call _).mono ?_; rintro e w2 ⟨rfl, hb2⟩; have hc2_0 := fun o => (bcell hb2).1 (w.heap.size) o (by first | (simp; done) | assumption | (simp; omega)); have hf2_0 := fun o => (bcell hb2).2 (w.heap.size) o (by first | (simp; done) | assumption | (simp; omega)); have z2_0 : w.heap.size < w2.heap.size := zz hb2 (by first | (simp; done) | assumption | (simp; omega)); have hc2_1 := fun o => (bcell hb2).1 (w.heap.size + 1) o (by first | (simp; done) | assumption | (simp; omega)); have hf2_1 := fun o => (bcell hb2).2 (w.heap.size + 1) o (by first | (simp; done) | assumption | (simp; omega)); have z2_1 : w.heap.size + 1 < w2.heap.size := zz hb2 (by first | (simp; done) | assumption | (simp; omega))))
  exact bodyPost_ret (v := .tuple #[.agg #[.int .i64 4, .int .i64 0, .int .i64 0, .string ⟨#[]⟩, .bool true], .int .i64 0]) (by simp [results, Tryz.results49, go_sem, *]) rfl ⟨rfl, by repeat (with_reducible (first | exact Below.refl _ _ | apply ba | apply bd | apply bdr | (refine bs ?_ (by first | (simp; done) | (simp; omega))) | (refine bt ?_ (by assumption)) | assumption))⟩
theorem refToBool_txt5_one (l : List UInt8) (w : World) (HTr : Hid (Gives 50 #[.string (ba' l)] (.string ⟨#[49]⟩))) : Calls Tryz.prog 49 #[.agg #[.int .i64 5, .int .i64 0, .int .i64 0, .string (ba' l), .bool false]] w fun e w' => e = .returned (.tuple #[.agg #[.int .i64 4, .int .i64 0, .int .i64 0, .string ⟨#[]⟩, .bool true], .int .i64 0]) ∧ Below w.heap.size w w' := by
  go_enter Tryz.func49, Tryz.ntmps49
  go_wp2_with (first
    | (go_at_call 50; refine (HTr.out.call _).mono ?_; rintro e w2 ⟨rfl, hb2⟩; have hc2_0 := fun o => (bcell hb2).1 (w.heap.size) o (by first | (simp; done) | assumption | (simp; omega)); have hf2_0 := fun o => (bcell hb2).2 (w.heap.size) o (by first | (simp; done) | assumption | (simp; omega)); have z2_0 : w.heap.size < w2.heap.size := zz hb2 (by first | (simp; done) | assumption | (simp; omega)); have hc2_1 := fun o => (bcell hb2).1 (w.heap.size + 1) o (by first | (simp; done) | assumption | (simp; omega)); have hf2_1 := fun o => (bcell hb2).2 (w.heap.size + 1) o (by first | (simp; done) | assumption | (simp; omega)); have z2_1 : w.heap.size + 1 < w2.heap.size := zz hb2 (by first | (simp; done) | assumption | (simp; omega))))
  exact bodyPost_ret (v := .tuple #[.agg #[.int .i64 4, .int .i64 0, .int .i64 0, .string ⟨#[]⟩, .bool true], .int .i64 0]) (by simp [results, Tryz.results49, go_sem, *]) rfl ⟨rfl, by repeat (with_reducible (first | exact Below.refl _ _ | apply ba | apply bd | apply bdr | (refine bs ?_ (by first | (simp; done) | (simp; omega))) | (refine bt ?_ (by assumption)) | assumption))⟩
theorem refToBool_txt5_false (l : List UInt8) (w : World) (HTr : Hid (Gives 50 #[.string (ba' l)] (.string ⟨#[102, 97, 108, 115, 101]⟩))) : Calls Tryz.prog 49 #[.agg #[.int .i64 5, .int .i64 0, .int .i64 0, .string (ba' l), .bool false]] w fun e w' => e = .returned (.tuple #[.agg #[.int .i64 4, .int .i64 0, .int .i64 0, .string ⟨#[]⟩, .bool false], .int .i64 0]) ∧ Below w.heap.size w w' := by
  go_enter Tryz.func49, Tryz.ntmps49
  go_wp2_with (first
    | (go_at_call 50; refine (HTr.out.call _).mono ?_; rintro e w2 ⟨rfl, hb2⟩; have hc2_0 := fun o => (bcell hb2).1 (w.heap.size) o (by first | (simp; done) | assumption | (simp; omega)); have hf2_0 := fun o => (bcell hb2).2 (w.heap.size) o (by first | (simp; done) | assumption | (simp; omega)); have z2_0 : w.heap.size < w2.heap.size := zz hb2 (by first | (simp; done) | assumption | (simp; omega)); have hc2_1 := fun o => (bcell hb2).1 (w.heap.size + 1) o (by first | (simp; done) | assumption | (simp; omega)); have hf2_1 := fun o => (bcell hb2).2 (w.heap.size + 1) o (by first | (simp; done) | assumption | (simp; omega)); have z2_1 : w.heap.size + 1 < w2.heap.size := zz hb2 (by first | (simp; done) | assumption | (simp; omega))))
  exact bodyPost_ret (v := .tuple #[.agg #[.int .i64 4, .int .i64 0, .int .i64 0, .string ⟨#[]⟩, .bool false], .int .i64 0]) (by simp [results, Tryz.results49, go_sem, *]) rfl ⟨rfl, by repeat (with_reducible (first | exact Below.refl _ _ | apply ba | apply bd | apply bdr | (refine bs ?_ (by first | (simp; done) | (simp; omega))) | (refine bt ?_ (by assumption)) | assumption))⟩
theorem refToBool_txt5_nought (l : List UInt8) (w : World) (HTr : Hid (Gives 50 #[.string (ba' l)] (.string ⟨#[48]⟩))) : Calls Tryz.prog 49 #[.agg #[.int .i64 5, .int .i64 0, .int .i64 0, .string (ba' l), .bool false]] w fun e w' => e = .returned (.tuple #[.agg #[.int .i64 4, .int .i64 0, .int .i64 0, .string ⟨#[]⟩, .bool false], .int .i64 0]) ∧ Below w.heap.size w w' := by
  go_enter Tryz.func49, Tryz.ntmps49
  go_wp2_with (first
    | (go_at_call 50; refine (HTr.out.call _).mono ?_; rintro e w2 ⟨rfl, hb2⟩; have hc2_0 := fun o => (bcell hb2).1 (w.heap.size) o (by first | (simp; done) | assumption | (simp; omega)); have hf2_0 := fun o => (bcell hb2).2 (w.heap.size) o (by first | (simp; done) | assumption | (simp; omega)); have z2_0 : w.heap.size < w2.heap.size := zz hb2 (by first | (simp; done) | assumption | (simp; omega)); have hc2_1 := fun o => (bcell hb2).1 (w.heap.size + 1) o (by first | (simp; done) | assumption | (simp; omega)); have hf2_1 := fun o => (bcell hb2).2 (w.heap.size + 1) o (by first | (simp; done) | assumption | (simp; omega)); have z2_1 : w.heap.size + 1 < w2.heap.size := zz hb2 (by first | (simp; done) | assumption | (simp; omega))))
  exact bodyPost_ret (v := .tuple #[.agg #[.int .i64 4, .int .i64 0, .int .i64 0, .string ⟨#[]⟩, .bool false], .int .i64 0]) (by simp [results, Tryz.results49, go_sem, *]) rfl ⟨rfl, by repeat (with_reducible (first | exact Below.refl _ _ | apply ba | apply bd | apply bdr | (refine bs ?_ (by first | (simp; done) | (simp; omega))) | (refine bt ?_ (by assumption)) | assumption))⟩
theorem refToBool_txt5_no (l : List UInt8) (u : List UInt8) (w : World) (HTr : Hid (Gives 50 #[.string (ba' l)] (.string (ba' u)))) (h1 : u ≠ [116, 114, 117, 101]) (h2 : u ≠ [49]) (h3 : u ≠ [102, 97, 108, 115, 101]) (h4 : u ≠ [48]) : Calls Tryz.prog 49 #[.agg #[.int .i64 5, .int .i64 0, .int .i64 0, .string (ba' l), .bool false]] w fun e w' => e = .returned (.tuple #[.agg #[.int .i64 0, .int .i64 0, .int .i64 0, .string ⟨#[]⟩, .bool false], .int .i64 50]) ∧ Below w.heap.size w w' := by
  have g1 : ((ba' u).toList == (⟨#[116, 114, 117, 101]⟩ : ByteArray).toList) = false := beq_txt' u [116, 114, 117, 101] false (by simpa using h1)
  have k1 : (ba' u == (⟨#[116, 114, 117, 101]⟩ : ByteArray)) = false := by rw [beq_toListBytes]; exact g1
  have m1 : ((ba' u).toList == [116, 114, 117, 101]) = false := by rw [toList_ba]; simpa using h1
  have g2 : ((ba' u).toList == (⟨#[49]⟩ : ByteArray).toList) = false := beq_txt' u [49] false (by simpa using h2)
  have k2 : (ba' u == (⟨#[49]⟩ : ByteArray)) = false := by rw [beq_toListBytes]; exact g2
  have m2 : ((ba' u).toList == [49]) = false := by rw [toList_ba]; simpa using h2
  have g3 : ((ba' u).toList == (⟨#[102, 97, 108, 115, 101]⟩ : ByteArray).toList) = false := beq_txt' u [102, 97, 108, 115, 101] false (by simpa using h3)
  have k3 : (ba' u == (⟨#[102, 97, 108, 115, 101]⟩ : ByteArray)) = false := by rw [beq_toListBytes]; exact g3
  have m3 : ((ba' u).toList == [102, 97, 108, 115, 101]) = false := by rw [toList_ba]; simpa using h3
  have g4 : ((ba' u).toList == (⟨#[48]⟩ : ByteArray).toList) = false := beq_txt' u [48] false (by simpa using h4)
  have k4 : (ba' u == (⟨#[48]⟩ : ByteArray)) = false := by rw [beq_toListBytes]; exact g4
  have m4 : ((ba' u).toList == [48]) = false := by rw [toList_ba]; simpa using h4
  clear h1 h2 h3 h4
  go_enter Tryz.func49, Tryz.ntmps49
  go_wp2_with (first
    | (go_at_call 50; refine (HTr.out.call _).mono ?_; rintro e w2 ⟨rfl, hb2⟩; have hc2_0 := fun o => (bcell hb2).1 (w.heap.size) o (by first | (simp; done) | assumption | (simp; omega)); have hf2_0 := fun o => (bcell hb2).2 (w.heap.size) o (by first | (simp; done) | assumption | (simp; omega)); have z2_0 : w.heap.size < w2.heap.size := zz hb2 (by first | (simp; done) | assumption | (simp; omega)); have hc2_1 := fun o => (bcell hb2).1 (w.heap.size + 1) o (by first | (simp; done) | assumption | (simp; omega)); have hf2_1 := fun o => (bcell hb2).2 (w.heap.size + 1) o (by first | (simp; done) | assumption | (simp; omega)); have z2_1 : w.heap.size + 1 < w2.heap.size := zz hb2 (by first | (simp; done) | assumption | (simp; omega))))
  exact bodyPost_ret (v := .tuple #[.agg #[.int .i64 0, .int .i64 0, .int .i64 0, .string ⟨#[]⟩, .bool false], .int .i64 50]) (by simp [results, Tryz.results49, go_sem, *]) rfl ⟨rfl, by repeat (with_reducible (first | exact Below.refl _ _ | apply ba | apply bd | apply bdr | (refine bs ?_ (by first | (simp; done) | (simp; omega))) | (refine bt ?_ (by assumption)) | assumption))⟩
theorem refCast_low (k n c : Int) (s : ByteArray) (b : Bool) (tk : Int) (w : World) (h : tk < 1) : Calls Tryz.prog 25 #[.agg #[.int .i64 k, .int .i64 n, .int .i64 c, .string s, .bool b], .int .i64 tk] w fun e w' => e = .returned (.tuple #[.agg #[.int .i64 0, .int .i64 0, .int .i64 0, .string ⟨#[]⟩, .bool false], .int .i64 2]) ∧ Below w.heap.size w w' := by
  go_enter Tryz.func25, Tryz.ntmps25
  go_wp2
  exact bodyPost_ret (v := .tuple #[.agg #[.int .i64 0, .int .i64 0, .int .i64 0, .string ⟨#[]⟩, .bool false], .int .i64 2]) (by simp [results, Tryz.results25, go_sem]) rfl ⟨rfl, by repeat (with_reducible (first | exact Below.refl _ _ | apply ba | apply bd | apply bdr | (refine bs ?_ (by first | (simp; done) | (simp; omega))) | (refine bt ?_ (by assumption)) | assumption))⟩
theorem refCast_high (k n c : Int) (s : ByteArray) (b : Bool) (tk : Int) (w : World) (h : 5 < tk) : Calls Tryz.prog 25 #[.agg #[.int .i64 k, .int .i64 n, .int .i64 c, .string s, .bool b], .int .i64 tk] w fun e w' => e = .returned (.tuple #[.agg #[.int .i64 0, .int .i64 0, .int .i64 0, .string ⟨#[]⟩, .bool false], .int .i64 2]) ∧ Below w.heap.size w w' := by
  have h1 : ¬ tk < 1 := by omega
  go_enter Tryz.func25, Tryz.ntmps25
  go_wp2
  exact bodyPost_ret (v := .tuple #[.agg #[.int .i64 0, .int .i64 0, .int .i64 0, .string ⟨#[]⟩, .bool false], .int .i64 2]) (by simp [results, Tryz.results25, go_sem]) rfl ⟨rfl, by repeat (with_reducible (first | exact Below.refl _ _ | apply ba | apply bd | apply bdr | (refine bs ?_ (by first | (simp; done) | (simp; omega))) | (refine bt ?_ (by assumption)) | assumption))⟩
theorem refCast_same1 (n c : Int) (s : ByteArray) (b : Bool) (w : World) : Calls Tryz.prog 25 #[.agg #[.int .i64 1, .int .i64 n, .int .i64 c, .string s, .bool b], .int .i64 1] w fun e w' => e = .returned (.tuple #[.agg #[.int .i64 1, .int .i64 n, .int .i64 c, .string s, .bool b], .int .i64 0]) ∧ Below w.heap.size w w' := by
  go_enter Tryz.func25, Tryz.ntmps25
  go_wp2
  exact bodyPost_ret (v := .tuple #[.agg #[.int .i64 1, .int .i64 n, .int .i64 c, .string s, .bool b], .int .i64 0]) (by simp [results, Tryz.results25, go_sem]) rfl ⟨rfl, by repeat (with_reducible (first | exact Below.refl _ _ | apply ba | apply bd | apply bdr | (refine bs ?_ (by first | (simp; done) | (simp; omega))) | (refine bt ?_ (by assumption)) | assumption))⟩
theorem refCast_same2 (n c : Int) (s : ByteArray) (b : Bool) (w : World) : Calls Tryz.prog 25 #[.agg #[.int .i64 2, .int .i64 n, .int .i64 c, .string s, .bool b], .int .i64 2] w fun e w' => e = .returned (.tuple #[.agg #[.int .i64 2, .int .i64 n, .int .i64 c, .string s, .bool b], .int .i64 0]) ∧ Below w.heap.size w w' := by
  go_enter Tryz.func25, Tryz.ntmps25
  go_wp2
  exact bodyPost_ret (v := .tuple #[.agg #[.int .i64 2, .int .i64 n, .int .i64 c, .string s, .bool b], .int .i64 0]) (by simp [results, Tryz.results25, go_sem]) rfl ⟨rfl, by repeat (with_reducible (first | exact Below.refl _ _ | apply ba | apply bd | apply bdr | (refine bs ?_ (by first | (simp; done) | (simp; omega))) | (refine bt ?_ (by assumption)) | assumption))⟩
theorem refCast_same3 (n c : Int) (s : ByteArray) (b : Bool) (w : World) : Calls Tryz.prog 25 #[.agg #[.int .i64 3, .int .i64 n, .int .i64 c, .string s, .bool b], .int .i64 3] w fun e w' => e = .returned (.tuple #[.agg #[.int .i64 3, .int .i64 n, .int .i64 c, .string s, .bool b], .int .i64 0]) ∧ Below w.heap.size w w' := by
  go_enter Tryz.func25, Tryz.ntmps25
  go_wp2
  exact bodyPost_ret (v := .tuple #[.agg #[.int .i64 3, .int .i64 n, .int .i64 c, .string s, .bool b], .int .i64 0]) (by simp [results, Tryz.results25, go_sem]) rfl ⟨rfl, by repeat (with_reducible (first | exact Below.refl _ _ | apply ba | apply bd | apply bdr | (refine bs ?_ (by first | (simp; done) | (simp; omega))) | (refine bt ?_ (by assumption)) | assumption))⟩
theorem refCast_same4 (n c : Int) (s : ByteArray) (b : Bool) (w : World) : Calls Tryz.prog 25 #[.agg #[.int .i64 4, .int .i64 n, .int .i64 c, .string s, .bool b], .int .i64 4] w fun e w' => e = .returned (.tuple #[.agg #[.int .i64 4, .int .i64 n, .int .i64 c, .string s, .bool b], .int .i64 0]) ∧ Below w.heap.size w w' := by
  go_enter Tryz.func25, Tryz.ntmps25
  go_wp2
  exact bodyPost_ret (v := .tuple #[.agg #[.int .i64 4, .int .i64 n, .int .i64 c, .string s, .bool b], .int .i64 0]) (by simp [results, Tryz.results25, go_sem]) rfl ⟨rfl, by repeat (with_reducible (first | exact Below.refl _ _ | apply ba | apply bd | apply bdr | (refine bs ?_ (by first | (simp; done) | (simp; omega))) | (refine bt ?_ (by assumption)) | assumption))⟩
theorem refCast_same5 (n c : Int) (s : ByteArray) (b : Bool) (w : World) : Calls Tryz.prog 25 #[.agg #[.int .i64 5, .int .i64 n, .int .i64 c, .string s, .bool b], .int .i64 5] w fun e w' => e = .returned (.tuple #[.agg #[.int .i64 5, .int .i64 n, .int .i64 c, .string s, .bool b], .int .i64 0]) ∧ Below w.heap.size w w' := by
  go_enter Tryz.func25, Tryz.ntmps25
  go_wp2
  exact bodyPost_ret (v := .tuple #[.agg #[.int .i64 5, .int .i64 n, .int .i64 c, .string s, .bool b], .int .i64 0]) (by simp [results, Tryz.results25, go_sem]) rfl ⟨rfl, by repeat (with_reducible (first | exact Below.refl _ _ | apply ba | apply bd | apply bdr | (refine bs ?_ (by first | (simp; done) | (simp; omega))) | (refine bt ?_ (by assumption)) | assumption))⟩
theorem refCast_1to3 (n c : Int) (s : ByteArray) (b : Bool) (u : List UInt8) (w : World) (HX : Hid (Gives 22 #[.agg #[.int .i64 1, .int .i64 n, .int .i64 c, .string s, .bool b]] (.string (ba' u)))) : Calls Tryz.prog 25 #[.agg #[.int .i64 1, .int .i64 n, .int .i64 c, .string s, .bool b], .int .i64 3] w fun e w' => e = .returned (.tuple #[.agg #[.int .i64 3, .int .i64 0, .int .i64 0, .string (ba' u), .bool false], .int .i64 0]) ∧ Below w.heap.size w w' := by
  go_enter Tryz.func25, Tryz.ntmps25
  go_wp2_with (first
    | (go_at_call 22; refine (HX.out.call _).mono ?_; rintro e w1 ⟨rfl, hb1⟩; have hc1_0 := fun o => (bcell hb1).1 (w.heap.size) o (by first | (simp; done) | assumption | (simp; omega)); have hf1_0 := fun o => (bcell hb1).2 (w.heap.size) o (by first | (simp; done) | assumption | (simp; omega)); have z1_0 : w.heap.size < w1.heap.size := zz hb1 (by first | (simp; done) | assumption | (simp; omega)); have hc1_1 := fun o => (bcell hb1).1 (w.heap.size + 1) o (by first | (simp; done) | assumption | (simp; omega)); have hf1_1 := fun o => (bcell hb1).2 (w.heap.size + 1) o (by first | (simp; done) | assumption | (simp; omega)); have z1_1 : w.heap.size + 1 < w1.heap.size := zz hb1 (by first | (simp; done) | assumption | (simp; omega))))
  exact bodyPost_ret (v := .tuple #[.agg #[.int .i64 3, .int .i64 0, .int .i64 0, .string (ba' u), .bool false], .int .i64 0]) (by simp [results, Tryz.results25, go_sem, *]) rfl ⟨rfl, by repeat (with_reducible (first | exact Below.refl _ _ | apply ba | apply bd | apply bdr | (refine bs ?_ (by first | (simp; done) | (simp; omega))) | (refine bt ?_ (by assumption)) | assumption))⟩
theorem refCast_1to5 (n c : Int) (s : ByteArray) (b : Bool) (u : List UInt8) (w : World) (HX : Hid (Gives 22 #[.agg #[.int .i64 1, .int .i64 n, .int .i64 c, .string s, .bool b]] (.string (ba' u)))) : Calls Tryz.prog 25 #[.agg #[.int .i64 1, .int .i64 n, .int .i64 c, .string s, .bool b], .int .i64 5] w fun e w' => e = .returned (.tuple #[.agg #[.int .i64 5, .int .i64 0, .int .i64 0, .string (ba' u), .bool false], .int .i64 0]) ∧ Below w.heap.size w w' := by
  go_enter Tryz.func25, Tryz.ntmps25
  go_wp2_with (first
    | (go_at_call 22; refine (HX.out.call _).mono ?_; rintro e w1 ⟨rfl, hb1⟩; have hc1_0 := fun o => (bcell hb1).1 (w.heap.size) o (by first | (simp; done) | assumption | (simp; omega)); have hf1_0 := fun o => (bcell hb1).2 (w.heap.size) o (by first | (simp; done) | assumption | (simp; omega)); have z1_0 : w.heap.size < w1.heap.size := zz hb1 (by first | (simp; done) | assumption | (simp; omega)); have hc1_1 := fun o => (bcell hb1).1 (w.heap.size + 1) o (by first | (simp; done) | assumption | (simp; omega)); have hf1_1 := fun o => (bcell hb1).2 (w.heap.size + 1) o (by first | (simp; done) | assumption | (simp; omega)); have z1_1 : w.heap.size + 1 < w1.heap.size := zz hb1 (by first | (simp; done) | assumption | (simp; omega))))
  exact bodyPost_ret (v := .tuple #[.agg #[.int .i64 5, .int .i64 0, .int .i64 0, .string (ba' u), .bool false], .int .i64 0]) (by simp [results, Tryz.results25, go_sem, *]) rfl ⟨rfl, by repeat (with_reducible (first | exact Below.refl _ _ | apply ba | apply bd | apply bdr | (refine bs ?_ (by first | (simp; done) | (simp; omega))) | (refine bt ?_ (by assumption)) | assumption))⟩
theorem refCast_1to4 (n c : Int) (s : ByteArray) (b : Bool) (k1 n1 c1 : Int) (s1 : ByteArray) (b1 : Bool) (e1 : Int) (w : World) (HX : Hid (Gives 49 #[.agg #[.int .i64 1, .int .i64 n, .int .i64 c, .string s, .bool b]] (.tuple #[.agg #[.int .i64 k1, .int .i64 n1, .int .i64 c1, .string s1, .bool b1], .int .i64 e1]))) : Calls Tryz.prog 25 #[.agg #[.int .i64 1, .int .i64 n, .int .i64 c, .string s, .bool b], .int .i64 4] w fun e w' => e = .returned (.tuple #[.agg #[.int .i64 k1, .int .i64 n1, .int .i64 c1, .string s1, .bool b1], .int .i64 e1]) ∧ Below w.heap.size w w' := by
  go_enter Tryz.func25, Tryz.ntmps25
  go_wp2_with (first
    | (go_at_call 49; refine (HX.out.call _).mono ?_; rintro e w1 ⟨rfl, hb1⟩; have hc1_0 := fun o => (bcell hb1).1 (w.heap.size) o (by first | (simp; done) | assumption | (simp; omega)); have hf1_0 := fun o => (bcell hb1).2 (w.heap.size) o (by first | (simp; done) | assumption | (simp; omega)); have z1_0 : w.heap.size < w1.heap.size := zz hb1 (by first | (simp; done) | assumption | (simp; omega)); have hc1_1 := fun o => (bcell hb1).1 (w.heap.size + 1) o (by first | (simp; done) | assumption | (simp; omega)); have hf1_1 := fun o => (bcell hb1).2 (w.heap.size + 1) o (by first | (simp; done) | assumption | (simp; omega)); have z1_1 : w.heap.size + 1 < w1.heap.size := zz hb1 (by first | (simp; done) | assumption | (simp; omega))))
  exact bodyPost_ret (v := .tuple #[.agg #[.int .i64 k1, .int .i64 n1, .int .i64 c1, .string s1, .bool b1], .int .i64 e1]) (by simp [results, Tryz.results25, go_sem, *]) rfl ⟨rfl, by repeat (with_reducible (first | exact Below.refl _ _ | apply ba | apply bd | apply bdr | (refine bs ?_ (by first | (simp; done) | (simp; omega))) | (refine bt ?_ (by assumption)) | assumption))⟩
theorem refCast_2to3 (n c : Int) (s : ByteArray) (b : Bool) (u : List UInt8) (w : World) (HX : Hid (Gives 22 #[.agg #[.int .i64 2, .int .i64 n, .int .i64 c, .string s, .bool b]] (.string (ba' u)))) : Calls Tryz.prog 25 #[.agg #[.int .i64 2, .int .i64 n, .int .i64 c, .string s, .bool b], .int .i64 3] w fun e w' => e = .returned (.tuple #[.agg #[.int .i64 3, .int .i64 0, .int .i64 0, .string (ba' u), .bool false], .int .i64 0]) ∧ Below w.heap.size w w' := by
  go_enter Tryz.func25, Tryz.ntmps25
  go_wp2_with (first
    | (go_at_call 22; refine (HX.out.call _).mono ?_; rintro e w1 ⟨rfl, hb1⟩; have hc1_0 := fun o => (bcell hb1).1 (w.heap.size) o (by first | (simp; done) | assumption | (simp; omega)); have hf1_0 := fun o => (bcell hb1).2 (w.heap.size) o (by first | (simp; done) | assumption | (simp; omega)); have z1_0 : w.heap.size < w1.heap.size := zz hb1 (by first | (simp; done) | assumption | (simp; omega)); have hc1_1 := fun o => (bcell hb1).1 (w.heap.size + 1) o (by first | (simp; done) | assumption | (simp; omega)); have hf1_1 := fun o => (bcell hb1).2 (w.heap.size + 1) o (by first | (simp; done) | assumption | (simp; omega)); have z1_1 : w.heap.size + 1 < w1.heap.size := zz hb1 (by first | (simp; done) | assumption | (simp; omega))))
  exact bodyPost_ret (v := .tuple #[.agg #[.int .i64 3, .int .i64 0, .int .i64 0, .string (ba' u), .bool false], .int .i64 0]) (by simp [results, Tryz.results25, go_sem, *]) rfl ⟨rfl, by repeat (with_reducible (first | exact Below.refl _ _ | apply ba | apply bd | apply bdr | (refine bs ?_ (by first | (simp; done) | (simp; omega))) | (refine bt ?_ (by assumption)) | assumption))⟩
theorem refCast_2to5 (n c : Int) (s : ByteArray) (b : Bool) (u : List UInt8) (w : World) (HX : Hid (Gives 22 #[.agg #[.int .i64 2, .int .i64 n, .int .i64 c, .string s, .bool b]] (.string (ba' u)))) : Calls Tryz.prog 25 #[.agg #[.int .i64 2, .int .i64 n, .int .i64 c, .string s, .bool b], .int .i64 5] w fun e w' => e = .returned (.tuple #[.agg #[.int .i64 5, .int .i64 0, .int .i64 0, .string (ba' u), .bool false], .int .i64 0]) ∧ Below w.heap.size w w' := by
  go_enter Tryz.func25, Tryz.ntmps25
  go_wp2_with (first
    | (go_at_call 22; refine (HX.out.call _).mono ?_; rintro e w1 ⟨rfl, hb1⟩; have hc1_0 := fun o => (bcell hb1).1 (w.heap.size) o (by first | (simp; done) | assumption | (simp; omega)); have hf1_0 := fun o => (bcell hb1).2 (w.heap.size) o (by first | (simp; done) | assumption | (simp; omega)); have z1_0 : w.heap.size < w1.heap.size := zz hb1 (by first | (simp; done) | assumption | (simp; omega)); have hc1_1 := fun o => (bcell hb1).1 (w.heap.size + 1) o (by first | (simp; done) | assumption | (simp; omega)); have hf1_1 := fun o => (bcell hb1).2 (w.heap.size + 1) o (by first | (simp; done) | assumption | (simp; omega)); have z1_1 : w.heap.size + 1 < w1.heap.size := zz hb1 (by first | (simp; done) | assumption | (simp; omega))))
  exact bodyPost_ret (v := .tuple #[.agg #[.int .i64 5, .int .i64 0, .int .i64 0, .string (ba' u), .bool false], .int .i64 0]) (by simp [results, Tryz.results25, go_sem, *]) rfl ⟨rfl, by repeat (with_reducible (first | exact Below.refl _ _ | apply ba | apply bd | apply bdr | (refine bs ?_ (by first | (simp; done) | (simp; omega))) | (refine bt ?_ (by assumption)) | assumption))⟩
theorem refCast_2to4 (n c : Int) (s : ByteArray) (b : Bool) (k1 n1 c1 : Int) (s1 : ByteArray) (b1 : Bool) (e1 : Int) (w : World) (HX : Hid (Gives 49 #[.agg #[.int .i64 2, .int .i64 n, .int .i64 c, .string s, .bool b]] (.tuple #[.agg #[.int .i64 k1, .int .i64 n1, .int .i64 c1, .string s1, .bool b1], .int .i64 e1]))) : Calls Tryz.prog 25 #[.agg #[.int .i64 2, .int .i64 n, .int .i64 c, .string s, .bool b], .int .i64 4] w fun e w' => e = .returned (.tuple #[.agg #[.int .i64 k1, .int .i64 n1, .int .i64 c1, .string s1, .bool b1], .int .i64 e1]) ∧ Below w.heap.size w w' := by
  go_enter Tryz.func25, Tryz.ntmps25
  go_wp2_with (first
    | (go_at_call 49; refine (HX.out.call _).mono ?_; rintro e w1 ⟨rfl, hb1⟩; have hc1_0 := fun o => (bcell hb1).1 (w.heap.size) o (by first | (simp; done) | assumption | (simp; omega)); have hf1_0 := fun o => (bcell hb1).2 (w.heap.size) o (by first | (simp; done) | assumption | (simp; omega)); have z1_0 : w.heap.size < w1.heap.size := zz hb1 (by first | (simp; done) | assumption | (simp; omega)); have hc1_1 := fun o => (bcell hb1).1 (w.heap.size + 1) o (by first | (simp; done) | assumption | (simp; omega)); have hf1_1 := fun o => (bcell hb1).2 (w.heap.size + 1) o (by first | (simp; done) | assumption | (simp; omega)); have z1_1 : w.heap.size + 1 < w1.heap.size := zz hb1 (by first | (simp; done) | assumption | (simp; omega))))
  exact bodyPost_ret (v := .tuple #[.agg #[.int .i64 k1, .int .i64 n1, .int .i64 c1, .string s1, .bool b1], .int .i64 e1]) (by simp [results, Tryz.results25, go_sem, *]) rfl ⟨rfl, by repeat (with_reducible (first | exact Below.refl _ _ | apply ba | apply bd | apply bdr | (refine bs ?_ (by first | (simp; done) | (simp; omega))) | (refine bt ?_ (by assumption)) | assumption))⟩
theorem refCast_3to5 (n c : Int) (s : ByteArray) (b : Bool) (u : List UInt8) (w : World) (HX : Hid (Gives 22 #[.agg #[.int .i64 3, .int .i64 n, .int .i64 c, .string s, .bool b]] (.string (ba' u)))) : Calls Tryz.prog 25 #[.agg #[.int .i64 3, .int .i64 n, .int .i64 c, .string s, .bool b], .int .i64 5] w fun e w' => e = .returned (.tuple #[.agg #[.int .i64 5, .int .i64 0, .int .i64 0, .string (ba' u), .bool false], .int .i64 0]) ∧ Below w.heap.size w w' := by
  go_enter Tryz.func25, Tryz.ntmps25
  go_wp2_with (first
    | (go_at_call 22; refine (HX.out.call _).mono ?_; rintro e w1 ⟨rfl, hb1⟩; have hc1_0 := fun o => (bcell hb1).1 (w.heap.size) o (by first | (simp; done) | assumption | (simp; omega)); have hf1_0 := fun o => (bcell hb1).2 (w.heap.size) o (by first | (simp; done) | assumption | (simp; omega)); have z1_0 : w.heap.size < w1.heap.size := zz hb1 (by first | (simp; done) | assumption | (simp; omega)); have hc1_1 := fun o => (bcell hb1).1 (w.heap.size + 1) o (by first | (simp; done) | assumption | (simp; omega)); have hf1_1 := fun o => (bcell hb1).2 (w.heap.size + 1) o (by first | (simp; done) | assumption | (simp; omega)); have z1_1 : w.heap.size + 1 < w1.heap.size := zz hb1 (by first | (simp; done) | assumption | (simp; omega))))
  exact bodyPost_ret (v := .tuple #[.agg #[.int .i64 5, .int .i64 0, .int .i64 0, .string (ba' u), .bool false], .int .i64 0]) (by simp [results, Tryz.results25, go_sem, *]) rfl ⟨rfl, by repeat (with_reducible (first | exact Below.refl _ _ | apply ba | apply bd | apply bdr | (refine bs ?_ (by first | (simp; done) | (simp; omega))) | (refine bt ?_ (by assumption)) | assumption))⟩
theorem refCast_3to4 (n c : Int) (s : ByteArray) (b : Bool) (k1 n1 c1 : Int) (s1 : ByteArray) (b1 : Bool) (e1 : Int) (w : World) (HX : Hid (Gives 49 #[.agg #[.int .i64 3, .int .i64 n, .int .i64 c, .string s, .bool b]] (.tuple #[.agg #[.int .i64 k1, .int .i64 n1, .int .i64 c1, .string s1, .bool b1], .int .i64 e1]))) : Calls Tryz.prog 25 #[.agg #[.int .i64 3, .int .i64 n, .int .i64 c, .string s, .bool b], .int .i64 4] w fun e w' => e = .returned (.tuple #[.agg #[.int .i64 k1, .int .i64 n1, .int .i64 c1, .string s1, .bool b1], .int .i64 e1]) ∧ Below w.heap.size w w' := by
  go_enter Tryz.func25, Tryz.ntmps25
  go_wp2_with (first
    | (go_at_call 49; refine (HX.out.call _).mono ?_; rintro e w1 ⟨rfl, hb1⟩; have hc1_0 := fun o => (bcell hb1).1 (w.heap.size) o (by first | (simp; done) | assumption | (simp; omega)); have hf1_0 := fun o => (bcell hb1).2 (w.heap.size) o (by first | (simp; done) | assumption | (simp; omega)); have z1_0 : w.heap.size < w1.heap.size := zz hb1 (by first | (simp; done) | assumption | (simp; omega)); have hc1_1 := fun o => (bcell hb1).1 (w.heap.size + 1) o (by first | (simp; done) | assumption | (simp; omega)); have hf1_1 := fun o => (bcell hb1).2 (w.heap.size + 1) o (by first | (simp; done) | assumption | (simp; omega)); have z1_1 : w.heap.size + 1 < w1.heap.size := zz hb1 (by first | (simp; done) | assumption | (simp; omega))))
  exact bodyPost_ret (v := .tuple #[.agg #[.int .i64 k1, .int .i64 n1, .int .i64 c1, .string s1, .bool b1], .int .i64 e1]) (by simp [results, Tryz.results25, go_sem, *]) rfl ⟨rfl, by repeat (with_reducible (first | exact Below.refl _ _ | apply ba | apply bd | apply bdr | (refine bs ?_ (by first | (simp; done) | (simp; omega))) | (refine bt ?_ (by assumption)) | assumption))⟩
theorem refCast_4to3 (n c : Int) (s : ByteArray) (b : Bool) (u : List UInt8) (w : World) (HX : Hid (Gives 22 #[.agg #[.int .i64 4, .int .i64 n, .int .i64 c, .string s, .bool b]] (.string (ba' u)))) : Calls Tryz.prog 25 #[.agg #[.int .i64 4, .int .i64 n, .int .i64 c, .string s, .bool b], .int .i64 3] w fun e w' => e = .returned (.tuple #[.agg #[.int .i64 3, .int .i64 0, .int .i64 0, .string (ba' u), .bool false], .int .i64 0]) ∧ Below w.heap.size w w' := by
  go_enter Tryz.func25, Tryz.ntmps25
  go_wp2_with (first
    | (go_at_call 22; refine (HX.out.call _).mono ?_; rintro e w1 ⟨rfl, hb1⟩; have hc1_0 := fun o => (bcell hb1).1 (w.heap.size) o (by first | (simp; done) | assumption | (simp; omega)); have hf1_0 := fun o => (bcell hb1).2 (w.heap.size) o (by first | (simp; done) | assumption | (simp; omega)); have z1_0 : w.heap.size < w1.heap.size := zz hb1 (by first | (simp; done) | assumption | (simp; omega)); have hc1_1 := fun o => (bcell hb1).1 (w.heap.size + 1) o (by first | (simp; done) | assumption | (simp; omega)); have hf1_1 := fun o => (bcell hb1).2 (w.heap.size + 1) o (by first | (simp; done) | assumption | (simp; omega)); have z1_1 : w.heap.size + 1 < w1.heap.size := zz hb1 (by first | (simp; done) | assumption | (simp; omega))))
  exact bodyPost_ret (v := .tuple #[.agg #[.int .i64 3, .int .i64 0, .int .i64 0, .string (ba' u), .bool false], .int .i64 0]) (by simp [results, Tryz.results25, go_sem, *]) rfl ⟨rfl, by repeat (with_reducible (first | exact Below.refl _ _ | apply ba | apply bd | apply bdr | (refine bs ?_ (by first | (simp; done) | (simp; omega))) | (refine bt ?_ (by assumption)) | assumption))⟩
theorem refCast_4to5 (n c : Int) (s : ByteArray) (b : Bool) (u : List UInt8) (w : World) (HX : Hid (Gives 22 #[.agg #[.int .i64 4, .int .i64 n, .int .i64 c, .string s, .bool b]] (.string (ba' u)))) : Calls Tryz.prog 25 #[.agg #[.int .i64 4, .int .i64 n, .int .i64 c, .string s, .bool b], .int .i64 5] w fun e w' => e = .returned (.tuple #[.agg #[.int .i64 5, .int .i64 0, .int .i64 0, .string (ba' u), .bool false], .int .i64 0]) ∧ Below w.heap.size w w' := by
  go_enter Tryz.func25, Tryz.ntmps25
  go_wp2_with (first
    | (go_at_call 22; refine (HX.out.call _).mono ?_; rintro e w1 ⟨rfl, hb1⟩; have hc1_0 := fun o => (bcell hb1).1 (w.heap.size) o (by first | (simp; done) | assumption | (simp; omega)); have hf1_0 := fun o => (bcell hb1).2 (w.heap.size) o (by first | (simp; done) | assumption | (simp; omega)); have z1_0 : w.heap.size < w1.heap.size := zz hb1 (by first | (simp; done) | assumption | (simp; omega)); have hc1_1 := fun o => (bcell hb1).1 (w.heap.size + 1) o (by first | (simp; done) | assumption | (simp; omega)); have hf1_1 := fun o => (bcell hb1).2 (w.heap.size + 1) o (by first | (simp; done) | assumption | (simp; omega)); have z1_1 : w.heap.size + 1 < w1.heap.size := zz hb1 (by first | (simp; done) | assumption | (simp; omega))))
  exact bodyPost_ret (v := .tuple #[.agg #[.int .i64 5, .int .i64 0, .int .i64 0, .string (ba' u), .bool false], .int .i64 0]) (by simp [results, Tryz.results25, go_sem, *]) rfl ⟨rfl, by repeat (with_reducible (first | exact Below.refl _ _ | apply ba | apply bd | apply bdr | (refine bs ?_ (by first | (simp; done) | (simp; omega))) | (refine bt ?_ (by assumption)) | assumption))⟩
theorem refCast_5to3 (n c : Int) (s : ByteArray) (b : Bool) (u : List UInt8) (w : World) (HX : Hid (Gives 22 #[.agg #[.int .i64 5, .int .i64 n, .int .i64 c, .string s, .bool b]] (.string (ba' u)))) : Calls Tryz.prog 25 #[.agg #[.int .i64 5, .int .i64 n, .int .i64 c, .string s, .bool b], .int .i64 3] w fun e w' => e = .returned (.tuple #[.agg #[.int .i64 3, .int .i64 0, .int .i64 0, .string (ba' u), .bool false], .int .i64 0]) ∧ Below w.heap.size w w' := by
  go_enter Tryz.func25, Tryz.ntmps25
  go_wp2_with (first
    | (go_at_call 22; refine (HX.out.call _).mono ?_; rintro e w1 ⟨rfl, hb1⟩; have hc1_0 := fun o => (bcell hb1).1 (w.heap.size) o (by first | (simp; done) | assumption | (simp; omega)); have hf1_0 := fun o => (bcell hb1).2 (w.heap.size) o (by first | (simp; done) | assumption | (simp; omega)); have z1_0 : w.heap.size < w1.heap.size := zz hb1 (by first | (simp; done) | assumption | (simp; omega)); have hc1_1 := fun o => (bcell hb1).1 (w.heap.size + 1) o (by first | (simp; done) | assumption | (simp; omega)); have hf1_1 := fun o => (bcell hb1).2 (w.heap.size + 1) o (by first | (simp; done) | assumption | (simp; omega)); have z1_1 : w.heap.size + 1 < w1.heap.size := zz hb1 (by first | (simp; done) | assumption | (simp; omega))))
  exact bodyPost_ret (v := .tuple #[.agg #[.int .i64 3, .int .i64 0, .int .i64 0, .string (ba' u), .bool false], .int .i64 0]) (by simp [results, Tryz.results25, go_sem, *]) rfl ⟨rfl, by repeat (with_reducible (first | exact Below.refl _ _ | apply ba | apply bd | apply bdr | (refine bs ?_ (by first | (simp; done) | (simp; omega))) | (refine bt ?_ (by assumption)) | assumption))⟩
theorem refCast_5to4 (n c : Int) (s : ByteArray) (b : Bool) (k1 n1 c1 : Int) (s1 : ByteArray) (b1 : Bool) (e1 : Int) (w : World) (HX : Hid (Gives 49 #[.agg #[.int .i64 5, .int .i64 n, .int .i64 c, .string s, .bool b]] (.tuple #[.agg #[.int .i64 k1, .int .i64 n1, .int .i64 c1, .string s1, .bool b1], .int .i64 e1]))) : Calls Tryz.prog 25 #[.agg #[.int .i64 5, .int .i64 n, .int .i64 c, .string s, .bool b], .int .i64 4] w fun e w' => e = .returned (.tuple #[.agg #[.int .i64 k1, .int .i64 n1, .int .i64 c1, .string s1, .bool b1], .int .i64 e1]) ∧ Below w.heap.size w w' := by
  go_enter Tryz.func25, Tryz.ntmps25
  go_wp2_with (first
    | (go_at_call 49; refine (HX.out.call _).mono ?_; rintro e w1 ⟨rfl, hb1⟩; have hc1_0 := fun o => (bcell hb1).1 (w.heap.size) o (by first | (simp; done) | assumption | (simp; omega)); have hf1_0 := fun o => (bcell hb1).2 (w.heap.size) o (by first | (simp; done) | assumption | (simp; omega)); have z1_0 : w.heap.size < w1.heap.size := zz hb1 (by first | (simp; done) | assumption | (simp; omega)); have hc1_1 := fun o => (bcell hb1).1 (w.heap.size + 1) o (by first | (simp; done) | assumption | (simp; omega)); have hf1_1 := fun o => (bcell hb1).2 (w.heap.size + 1) o (by first | (simp; done) | assumption | (simp; omega)); have z1_1 : w.heap.size + 1 < w1.heap.size := zz hb1 (by first | (simp; done) | assumption | (simp; omega))))
  exact bodyPost_ret (v := .tuple #[.agg #[.int .i64 k1, .int .i64 n1, .int .i64 c1, .string s1, .bool b1], .int .i64 e1]) (by simp [results, Tryz.results25, go_sem, *]) rfl ⟨rfl, by repeat (with_reducible (first | exact Below.refl _ _ | apply ba | apply bd | apply bdr | (refine bs ?_ (by first | (simp; done) | (simp; omega))) | (refine bt ?_ (by assumption)) | assumption))⟩
theorem refCast_1to2 (n : Int) (w : World) : Calls Tryz.prog 25 #[.agg #[.int .i64 1, .int .i64 n, .int .i64 0, .string ⟨#[]⟩, .bool false], .int .i64 2] w fun e w' => e = .returned (.tuple #[.agg #[.int .i64 2, .int .i64 n, .int .i64 0, .string ⟨#[]⟩, .bool false], .int .i64 0]) ∧ Below w.heap.size w w' := by
  go_enter Tryz.func25, Tryz.ntmps25
  go_wp2
  exact bodyPost_ret (v := .tuple #[.agg #[.int .i64 2, .int .i64 n, .int .i64 0, .string ⟨#[]⟩, .bool false], .int .i64 0]) (by simp [results, Tryz.results25, go_sem]) rfl ⟨rfl, by repeat (with_reducible (first | exact Below.refl _ _ | apply ba | apply bd | apply bdr | (refine bs ?_ (by first | (simp; done) | (simp; omega))) | (refine bt ?_ (by assumption)) | assumption))⟩
theorem refCast_4to2_true  (w : World) : Calls Tryz.prog 25 #[.agg #[.int .i64 4, .int .i64 0, .int .i64 0, .string ⟨#[]⟩, .bool true], .int .i64 2] w fun e w' => e = .returned (.tuple #[.agg #[.int .i64 2, .int .i64 1, .int .i64 0, .string ⟨#[]⟩, .bool false], .int .i64 0]) ∧ Below w.heap.size w w' := by
  go_enter Tryz.func25, Tryz.ntmps25
  go_wp2
  exact bodyPost_ret (v := .tuple #[.agg #[.int .i64 2, .int .i64 1, .int .i64 0, .string ⟨#[]⟩, .bool false], .int .i64 0]) (by simp [results, Tryz.results25, go_sem]) rfl ⟨rfl, by repeat (with_reducible (first | exact Below.refl _ _ | apply ba | apply bd | apply bdr | (refine bs ?_ (by first | (simp; done) | (simp; omega))) | (refine bt ?_ (by assumption)) | assumption))⟩
theorem refCast_4to2_false  (w : World) : Calls Tryz.prog 25 #[.agg #[.int .i64 4, .int .i64 0, .int .i64 0, .string ⟨#[]⟩, .bool false], .int .i64 2] w fun e w' => e = .returned (.tuple #[.agg #[.int .i64 2, .int .i64 0, .int .i64 0, .string ⟨#[]⟩, .bool false], .int .i64 0]) ∧ Below w.heap.size w w' := by
  go_enter Tryz.func25, Tryz.ntmps25
  go_wp2
  exact bodyPost_ret (v := .tuple #[.agg #[.int .i64 2, .int .i64 0, .int .i64 0, .string ⟨#[]⟩, .bool false], .int .i64 0]) (by simp [results, Tryz.results25, go_sem]) rfl ⟨rfl, by repeat (with_reducible (first | exact Below.refl _ _ | apply ba | apply bd | apply bdr | (refine bs ?_ (by first | (simp; done) | (simp; omega))) | (refine bt ?_ (by assumption)) | assumption))⟩
end Go.Proofs.YtemgabmafmehnaaGreatDoor
namespace Go.Proofs.YtemgabmafmehnaaGreatDoor
open Go.Shelf Go.RowKit Go.Proofs.Wide Go.Proofs.Dig
set_option maxRecDepth 100000
set_option maxHeartbeats 4000000
theorem tdiv_tdiv' (n : Int) (k : Nat) : (n.tdiv (10 ^ k)).tdiv 10 = n.tdiv (10 ^ (k + 1)) := by
  have key : ∀ a : Nat, (n.tdiv (a : Int)).tdiv 10 = n.tdiv ((a * 10 : Nat) : Int) := by
    intro a
    cases n with
    | ofNat m => show ((((m / a : Nat) / 10 : Nat)) : Int) = ((m / (a * 10) : Nat) : Int); rw [Nat.div_div_eq_div_mul]
    | negSucc m =>
      have e : ∀ b : Nat, (Int.negSucc m).tdiv (b : Int) = -((((m + 1) / b : Nat)) : Int) := fun b => rfl
      rw [e, e, Int.neg_tdiv]
      show -((((m + 1) / a / 10 : Nat)) : Int) = _
      rw [Nat.div_div_eq_div_mul]
  have h := key (10 ^ k)
  rw [Int.natCast_mul, Int.natCast_pow] at h
  rw [Int.pow_succ]
  exact h
theorem tdiv_small {n : Int} {k : Nat} (h1 : -999999999999999999 ≤ n) (h2 : n ≤ 999999999999999999) : -999999999999999999 ≤ n.tdiv (10 ^ k) ∧ n.tdiv (10 ^ k) ≤ 999999999999999999 := by
  have : (n.tdiv (10 ^ k)).natAbs ≤ n.natAbs := by rw [Int.natAbs_tdiv]; exact Nat.div_le_self _ _
  omega
theorem mem_take_succ (u : List UInt8) (i : Nat) (h : i < u.length) : (46 ∈ u.take (i + 1)) ↔ (46 ∈ u.take i ∨ u[i] = 46) := by
  rw [List.take_succ_eq_append_getElem h, List.mem_append, List.mem_singleton]
  exact ⟨fun h => h.elim .inl fun h => .inr h.symm, fun h => h.elim .inl fun h => .inr h.symm⟩
theorem refCast_2to1 (n q : Int) (c : Nat) (w : World) (hn1 : -999999999999999999 ≤ n) (hn2 : n ≤ 999999999999999999) (hc9 : c ≤ 9) (hq : n.tdiv (10 ^ c) = q) : Calls Tryz.prog 25 #[.agg #[.int .i64 2, .int .i64 n, .int .i64 (c : Int), .string ⟨#[]⟩, .bool false], .int .i64 1] w fun e w' => e = .returned (.tuple #[.agg #[.int .i64 1, .int .i64 q, .int .i64 0, .string ⟨#[]⟩, .bool false], .int .i64 0]) ∧ Below w.heap.size w w' := by
  have HQ := Lib.hid hq
  clear hq
  go_enter Tryz.func25, Tryz.ntmps25
  go_wp2
  go_loop [6, 7] (fun s6 s7 => ∃ j : Nat, j ≤ c ∧ s7 = .int .i64 j ∧ s6 = .int .i64 (n.tdiv (10 ^ (c - j)))) (fun _ s7 => (intOf s7).toNat)
  case atStart => exact ⟨c, Nat.le_refl _, rfl, by rw [Nat.sub_self, Int.pow_zero, Int.tdiv_one]⟩
  case round =>
    obtain ⟨j, hj, rfl, rfl⟩ := hrel
    have hb := tdiv_small (k := c - j) hn1 hn2
    cases j with
    | zero =>
      have hz : Hid (n.tdiv (10 ^ (c - 0)) = q) := Lib.hid (by rw [Nat.sub_zero]; exact HQ.out)
      rw [hz.out] at hb ⊢
      clear hz
      go_wp2
      exact bodyPost_ret (v := .tuple #[.agg #[.int .i64 1, .int .i64 q, .int .i64 0, .string ⟨#[]⟩, .bool false], .int .i64 0]) (by simp [results, Tryz.results25, go_sem, *]) rfl ⟨rfl, by repeat (with_reducible (first | exact Below.refl _ _ | assumption | apply ba | apply bd | apply bdr | (refine bs ?_ (by first | assumption | (simp; done) | (simp; omega))) | (refine bt ?_ (by assumption))))⟩
    | succ j =>
      have hs := tdiv_tdiv' n (c - (j + 1))
      rw [show c - (j + 1) + 1 = c - j by omega] at hs
      have hb2 := tdiv_small (k := c - j) hn1 hn2
      obtain ⟨m, hm⟩ : ∃ m, n.tdiv (10 ^ (c - (j + 1))) = m := ⟨_, rfl⟩
      rw [hm] at hs hb ⊢
      obtain ⟨m2, hm2⟩ : ∃ m2, n.tdiv (10 ^ (c - j)) = m2 := ⟨_, rfl⟩
      rw [hm2] at hs hb2
      have HM2 := Lib.hid hm2
      have wq : IntKind.i64.wrap (m.tdiv 10) = m2 := by rw [hs, IntKind.wrap_i64]; omega
      have hpos : decide ((0 : Int) < ((j + 1 : Nat) : Int)) = true := by first | (simp; done) | (simp; omega)
      have hw : IntKind.i64.wrap (((j + 1 : Nat) : Int) - 1) = (j : Int) := by rw [IntKind.wrap_i64]; omega
      clear hm hm2 hs
      go_wp2
      go_round
      case rel => exact ⟨j, by omega, by go_num, by rw [HM2.out]⟩
      case measure => simp [intOf]
theorem refCast_txt3to1_bad (l u : List UInt8) (pn pk pe pf : Int) (w : World) (hT50 : Hid (Gives 50 #[.string (ba' l)] (.string (ba' u)))) (HP : Hid (Gives 51 #[.string (ba' u)] (.tuple #[.int .i64 pn, .int .i64 pk, .int .i64 pe]))) (ev : Nat → Int) (hu : u.length ≤ 1048576) (he0 : ev 0 = pe) (hes : ∀ (i : Nat) (h : i < u.length), ev (i + 1) = if u[i] = 46 then 12 else ev i) (hee : ev u.length = pf) (hf : pf = 12) : Calls Tryz.prog 25 #[.agg #[.int .i64 3, .int .i64 0, .int .i64 0, .string (ba' l), .bool false], .int .i64 1] w fun e w' => e = .returned (.tuple #[.agg #[.int .i64 0, .int .i64 0, .int .i64 0, .string ⟨#[]⟩, .bool false], .int .i64 50]) ∧ Below w.heap.size w w' := by
  have hs := size_ba u
  have hs1 : ((ba' u).size : Int) = u.length := by rw [hs]
  have HE0 := Lib.hid he0
  have HES := Lib.hid hes
  have HEE := Lib.hid hee
  clear he0 hes hee
  subst hf
  go_enter Tryz.func25, Tryz.ntmps25
  go_wp2_with (first
    | (go_at_call 50; go_must (refine (hT50.out.call _).mono ?_); rintro e w1 ⟨rfl, hb1⟩; have B1 : Below w.heap.size w w1 := (by repeat (with_reducible (first | exact Below.refl _ _ | assumption | apply ba | apply bd | apply bdr | (refine bs ?_ (by first | assumption | (simp; done) | (simp; omega))) | (refine bt ?_ (by assumption))))); have y1 := B1.size; have hc1_0 := fun o => (bcell hb1).1 (w.heap.size) o (by first | (simp; done) | assumption | (simp; omega)); have hf1_0 := fun o => (bcell hb1).2 (w.heap.size) o (by first | (simp; done) | assumption | (simp; omega)); have z1_0 : w.heap.size < w1.heap.size := zz hb1 (by first | (simp; done) | assumption | (simp; omega)); have hc1_1 := fun o => (bcell hb1).1 (w.heap.size + 1) o (by first | (simp; done) | assumption | (simp; omega)); have hf1_1 := fun o => (bcell hb1).2 (w.heap.size + 1) o (by first | (simp; done) | assumption | (simp; omega)); have z1_1 : w.heap.size + 1 < w1.heap.size := zz hb1 (by first | (simp; done) | assumption | (simp; omega)))
    | (go_at_call 51; go_must (refine (HP.out.call _).mono ?_); rintro e w2 ⟨rfl, hb2⟩; have B2 : Below w.heap.size w w2 := (by repeat (with_reducible (first | exact Below.refl _ _ | assumption | apply ba | apply bd | apply bdr | (refine bs ?_ (by first | assumption | (simp; done) | (simp; omega))) | (refine bt ?_ (by assumption))))); have y2 := B2.size; have hc2_0 := fun o => (bcell hb2).1 (w.heap.size) o (by first | (simp; done) | assumption | (simp; omega)); have hf2_0 := fun o => (bcell hb2).2 (w.heap.size) o (by first | (simp; done) | assumption | (simp; omega)); have z2_0 : w.heap.size < w2.heap.size := zz hb2 (by first | (simp; done) | assumption | (simp; omega)); have hc2_1 := fun o => (bcell hb2).1 (w.heap.size + 1) o (by first | (simp; done) | assumption | (simp; omega)); have hf2_1 := fun o => (bcell hb2).2 (w.heap.size + 1) o (by first | (simp; done) | assumption | (simp; omega)); have z2_1 : w.heap.size + 1 < w2.heap.size := zz hb2 (by first | (simp; done) | assumption | (simp; omega))))
  go_loop [9, 10] (fun s9 s10 => ∃ i : Nat, i ≤ u.length ∧ s10 = .int .i64 i ∧ s9 = .int .i64 (ev i)) (fun _ s10 => u.length - (intOf s10).toNat)
  case atStart => exact ⟨0, Nat.zero_le _, rfl, by rw [HE0.out]⟩
  case round =>
    obtain ⟨i, hi, rfl, rfl⟩ := hrel
    by_cases hlt : i < u.length
    · have hl1 : decide ((i : Int) < (u.length : Int)) = true := by simp; exact hlt
      have hidx : ((ba' u)[i]'(by rw [hs]; exact hlt)).toNat = (u[i]).toNat := rfl
      obtain ⟨d, hd⟩ : ∃ d, u[i] = d := ⟨_, rfl⟩
      have hstep := HES.out i hlt
      rw [hd] at hidx hstep
      obtain ⟨e0, he0⟩ : ∃ e0, ev i = e0 := ⟨_, rfl⟩
      rw [he0] at hstep ⊢
      have HN := Lib.hid hstep
      clear hstep he0 hd
      by_cases hdot : d = 46
      · have hn46 : (d.toNat : Int) = 46 := by rw [hdot]; rfl
        have hb46 : ((d.toNat : Int) == 46) = true := by rw [hn46]; rfl
        have HN2 : Hid (ev (i + 1) = 12) := Lib.hid (by rw [HN.out, if_pos hdot])
        clear hdot hn46 HN
        go_wp2
        all_goals
          go_round
          case rel => exact ⟨i + 1, by omega, by go_num, by rw [HN2.out]⟩
          case measure => simp [intOf]; omega
      · have hn46 : ((d.toNat : Int) == 46) = false := by
          rw [beq_eq_false_iff_ne]; intro e; apply hdot; apply UInt8.toNat_inj.1; show d.toNat = 46; omega
        have HN2 : Hid (ev (i + 1) = e0) := Lib.hid (by rw [HN.out, if_neg hdot])
        clear hdot HN
        go_wp2
        all_goals
          go_round
          case rel => exact ⟨i + 1, by omega, by go_num, by rw [HN2.out]⟩
          case measure => simp [intOf]; omega
    · obtain rfl : i = u.length := by omega
      have hl1 : decide (((u.length : Nat) : Int) < ((u.length : Nat) : Int)) = false := by simp
      rw [HEE.out]
      go_wp2
      exact bodyPost_ret (v := .tuple #[.agg #[.int .i64 0, .int .i64 0, .int .i64 0, .string ⟨#[]⟩, .bool false], .int .i64 50]) (by simp [results, Tryz.results25, go_sem, *]) rfl ⟨rfl, by repeat (with_reducible (first | exact Below.refl _ _ | assumption | apply ba | apply bd | apply bdr | (refine bs ?_ (by first | assumption | (simp; done) | (simp; omega))) | (refine bt ?_ (by assumption))))⟩
theorem refCast_txt3to1_err (l u : List UInt8) (pn pk pe pf : Int) (w : World) (hT50 : Hid (Gives 50 #[.string (ba' l)] (.string (ba' u)))) (HP : Hid (Gives 51 #[.string (ba' u)] (.tuple #[.int .i64 pn, .int .i64 pk, .int .i64 pe]))) (ev : Nat → Int) (hu : u.length ≤ 1048576) (he0 : ev 0 = pe) (hes : ∀ (i : Nat) (h : i < u.length), ev (i + 1) = if u[i] = 46 then 12 else ev i) (hee : ev u.length = pf) (hf : pf ≠ 12) (hf0 : pf ≠ 0) : Calls Tryz.prog 25 #[.agg #[.int .i64 3, .int .i64 0, .int .i64 0, .string (ba' l), .bool false], .int .i64 1] w fun e w' => e = .returned (.tuple #[.agg #[.int .i64 0, .int .i64 0, .int .i64 0, .string ⟨#[]⟩, .bool false], .int .i64 pf]) ∧ Below w.heap.size w w' := by
  have hs := size_ba u
  have hs1 : ((ba' u).size : Int) = u.length := by rw [hs]
  have HE0 := Lib.hid he0
  have HES := Lib.hid hes
  have HEE := Lib.hid hee
  clear he0 hes hee
  have f12 : (pf == 12) = false := by simpa using hf
  have f0 : (pf == 0) = false := by simpa using hf0
  have f1 : (pf != 0) = true := by simpa using hf0
  clear hf hf0
  go_enter Tryz.func25, Tryz.ntmps25
  go_wp2_with (first
    | (go_at_call 50; go_must (refine (hT50.out.call _).mono ?_); rintro e w1 ⟨rfl, hb1⟩; have B1 : Below w.heap.size w w1 := (by repeat (with_reducible (first | exact Below.refl _ _ | assumption | apply ba | apply bd | apply bdr | (refine bs ?_ (by first | assumption | (simp; done) | (simp; omega))) | (refine bt ?_ (by assumption))))); have y1 := B1.size; have hc1_0 := fun o => (bcell hb1).1 (w.heap.size) o (by first | (simp; done) | assumption | (simp; omega)); have hf1_0 := fun o => (bcell hb1).2 (w.heap.size) o (by first | (simp; done) | assumption | (simp; omega)); have z1_0 : w.heap.size < w1.heap.size := zz hb1 (by first | (simp; done) | assumption | (simp; omega)); have hc1_1 := fun o => (bcell hb1).1 (w.heap.size + 1) o (by first | (simp; done) | assumption | (simp; omega)); have hf1_1 := fun o => (bcell hb1).2 (w.heap.size + 1) o (by first | (simp; done) | assumption | (simp; omega)); have z1_1 : w.heap.size + 1 < w1.heap.size := zz hb1 (by first | (simp; done) | assumption | (simp; omega)))
    | (go_at_call 51; go_must (refine (HP.out.call _).mono ?_); rintro e w2 ⟨rfl, hb2⟩; have B2 : Below w.heap.size w w2 := (by repeat (with_reducible (first | exact Below.refl _ _ | assumption | apply ba | apply bd | apply bdr | (refine bs ?_ (by first | assumption | (simp; done) | (simp; omega))) | (refine bt ?_ (by assumption))))); have y2 := B2.size; have hc2_0 := fun o => (bcell hb2).1 (w.heap.size) o (by first | (simp; done) | assumption | (simp; omega)); have hf2_0 := fun o => (bcell hb2).2 (w.heap.size) o (by first | (simp; done) | assumption | (simp; omega)); have z2_0 : w.heap.size < w2.heap.size := zz hb2 (by first | (simp; done) | assumption | (simp; omega)); have hc2_1 := fun o => (bcell hb2).1 (w.heap.size + 1) o (by first | (simp; done) | assumption | (simp; omega)); have hf2_1 := fun o => (bcell hb2).2 (w.heap.size + 1) o (by first | (simp; done) | assumption | (simp; omega)); have z2_1 : w.heap.size + 1 < w2.heap.size := zz hb2 (by first | (simp; done) | assumption | (simp; omega))))
  go_loop [9, 10] (fun s9 s10 => ∃ i : Nat, i ≤ u.length ∧ s10 = .int .i64 i ∧ s9 = .int .i64 (ev i)) (fun _ s10 => u.length - (intOf s10).toNat)
  case atStart => exact ⟨0, Nat.zero_le _, rfl, by rw [HE0.out]⟩
  case round =>
    obtain ⟨i, hi, rfl, rfl⟩ := hrel
    by_cases hlt : i < u.length
    · have hl1 : decide ((i : Int) < (u.length : Int)) = true := by simp; exact hlt
      have hidx : ((ba' u)[i]'(by rw [hs]; exact hlt)).toNat = (u[i]).toNat := rfl
      obtain ⟨d, hd⟩ : ∃ d, u[i] = d := ⟨_, rfl⟩
      have hstep := HES.out i hlt
      rw [hd] at hidx hstep
      obtain ⟨e0, he0⟩ : ∃ e0, ev i = e0 := ⟨_, rfl⟩
      rw [he0] at hstep ⊢
      have HN := Lib.hid hstep
      clear hstep he0 hd
      by_cases hdot : d = 46
      · have hn46 : (d.toNat : Int) = 46 := by rw [hdot]; rfl
        have hb46 : ((d.toNat : Int) == 46) = true := by rw [hn46]; rfl
        have HN2 : Hid (ev (i + 1) = 12) := Lib.hid (by rw [HN.out, if_pos hdot])
        clear hdot hn46 HN
        go_wp2
        all_goals
          go_round
          case rel => exact ⟨i + 1, by omega, by go_num, by rw [HN2.out]⟩
          case measure => simp [intOf]; omega
      · have hn46 : ((d.toNat : Int) == 46) = false := by
          rw [beq_eq_false_iff_ne]; intro e; apply hdot; apply UInt8.toNat_inj.1; show d.toNat = 46; omega
        have HN2 : Hid (ev (i + 1) = e0) := Lib.hid (by rw [HN.out, if_neg hdot])
        clear hdot HN
        go_wp2
        all_goals
          go_round
          case rel => exact ⟨i + 1, by omega, by go_num, by rw [HN2.out]⟩
          case measure => simp [intOf]; omega
    · obtain rfl : i = u.length := by omega
      have hl1 : decide (((u.length : Nat) : Int) < ((u.length : Nat) : Int)) = false := by simp
      rw [HEE.out]
      go_wp2
      exact bodyPost_ret (v := .tuple #[.agg #[.int .i64 0, .int .i64 0, .int .i64 0, .string ⟨#[]⟩, .bool false], .int .i64 pf]) (by simp [results, Tryz.results25, go_sem, *]) rfl ⟨rfl, by repeat (with_reducible (first | exact Below.refl _ _ | assumption | apply ba | apply bd | apply bdr | (refine bs ?_ (by first | assumption | (simp; done) | (simp; omega))) | (refine bt ?_ (by assumption))))⟩
theorem refCast_txt3to1_ok (l u : List UInt8) (pn pk pe pf : Int) (w : World) (hT50 : Hid (Gives 50 #[.string (ba' l)] (.string (ba' u)))) (HP : Hid (Gives 51 #[.string (ba' u)] (.tuple #[.int .i64 pn, .int .i64 pk, .int .i64 pe]))) (ev : Nat → Int) (hu : u.length ≤ 1048576) (he0 : ev 0 = pe) (hes : ∀ (i : Nat) (h : i < u.length), ev (i + 1) = if u[i] = 46 then 12 else ev i) (hee : ev u.length = pf) (hf : pf = 0) (c : Nat) (hpk : pk = (c : Int)) (n : Int) (hpn : pn = n) (hn1 : -999999999999999999 ≤ n) (hn2 : n ≤ 999999999999999999) (hc9 : c ≤ 9) (q : Int) (hq : n.tdiv (10 ^ c) = q) : Calls Tryz.prog 25 #[.agg #[.int .i64 3, .int .i64 0, .int .i64 0, .string (ba' l), .bool false], .int .i64 1] w fun e w' => e = .returned (.tuple #[.agg #[.int .i64 1, .int .i64 q, .int .i64 0, .string ⟨#[]⟩, .bool false], .int .i64 0]) ∧ Below w.heap.size w w' := by
  have hs := size_ba u
  have hs1 : ((ba' u).size : Int) = u.length := by rw [hs]
  have HE0 := Lib.hid he0
  have HES := Lib.hid hes
  have HEE := Lib.hid hee
  clear he0 hes hee
  subst hf
  subst hpk
  subst hpn
  have HQ := Lib.hid hq
  clear hq
  go_enter Tryz.func25, Tryz.ntmps25
  go_wp2_with (first
    | (go_at_call 50; go_must (refine (hT50.out.call _).mono ?_); rintro e w1 ⟨rfl, hb1⟩; have B1 : Below w.heap.size w w1 := (by repeat (with_reducible (first | exact Below.refl _ _ | assumption | apply ba | apply bd | apply bdr | (refine bs ?_ (by first | assumption | (simp; done) | (simp; omega))) | (refine bt ?_ (by assumption))))); have y1 := B1.size; have hc1_0 := fun o => (bcell hb1).1 (w.heap.size) o (by first | (simp; done) | assumption | (simp; omega)); have hf1_0 := fun o => (bcell hb1).2 (w.heap.size) o (by first | (simp; done) | assumption | (simp; omega)); have z1_0 : w.heap.size < w1.heap.size := zz hb1 (by first | (simp; done) | assumption | (simp; omega)); have hc1_1 := fun o => (bcell hb1).1 (w.heap.size + 1) o (by first | (simp; done) | assumption | (simp; omega)); have hf1_1 := fun o => (bcell hb1).2 (w.heap.size + 1) o (by first | (simp; done) | assumption | (simp; omega)); have z1_1 : w.heap.size + 1 < w1.heap.size := zz hb1 (by first | (simp; done) | assumption | (simp; omega)))
    | (go_at_call 51; go_must (refine (HP.out.call _).mono ?_); rintro e w2 ⟨rfl, hb2⟩; have B2 : Below w.heap.size w w2 := (by repeat (with_reducible (first | exact Below.refl _ _ | assumption | apply ba | apply bd | apply bdr | (refine bs ?_ (by first | assumption | (simp; done) | (simp; omega))) | (refine bt ?_ (by assumption))))); have y2 := B2.size; have hc2_0 := fun o => (bcell hb2).1 (w.heap.size) o (by first | (simp; done) | assumption | (simp; omega)); have hf2_0 := fun o => (bcell hb2).2 (w.heap.size) o (by first | (simp; done) | assumption | (simp; omega)); have z2_0 : w.heap.size < w2.heap.size := zz hb2 (by first | (simp; done) | assumption | (simp; omega)); have hc2_1 := fun o => (bcell hb2).1 (w.heap.size + 1) o (by first | (simp; done) | assumption | (simp; omega)); have hf2_1 := fun o => (bcell hb2).2 (w.heap.size + 1) o (by first | (simp; done) | assumption | (simp; omega)); have z2_1 : w.heap.size + 1 < w2.heap.size := zz hb2 (by first | (simp; done) | assumption | (simp; omega))))
  go_loop [9, 10] (fun s9 s10 => ∃ i : Nat, i ≤ u.length ∧ s10 = .int .i64 i ∧ s9 = .int .i64 (ev i)) (fun _ s10 => u.length - (intOf s10).toNat)
  case atStart => exact ⟨0, Nat.zero_le _, rfl, by rw [HE0.out]⟩
  case round =>
    obtain ⟨i, hi, rfl, rfl⟩ := hrel
    by_cases hlt : i < u.length
    · have hl1 : decide ((i : Int) < (u.length : Int)) = true := by simp; exact hlt
      have hidx : ((ba' u)[i]'(by rw [hs]; exact hlt)).toNat = (u[i]).toNat := rfl
      obtain ⟨d, hd⟩ : ∃ d, u[i] = d := ⟨_, rfl⟩
      have hstep := HES.out i hlt
      rw [hd] at hidx hstep
      obtain ⟨e0, he0⟩ : ∃ e0, ev i = e0 := ⟨_, rfl⟩
      rw [he0] at hstep ⊢
      have HN := Lib.hid hstep
      clear hstep he0 hd
      by_cases hdot : d = 46
      · have hn46 : (d.toNat : Int) = 46 := by rw [hdot]; rfl
        have hb46 : ((d.toNat : Int) == 46) = true := by rw [hn46]; rfl
        have HN2 : Hid (ev (i + 1) = 12) := Lib.hid (by rw [HN.out, if_pos hdot])
        clear hdot hn46 HN
        go_wp2
        all_goals
          go_round
          case rel => exact ⟨i + 1, by omega, by go_num, by rw [HN2.out]⟩
          case measure => simp [intOf]; omega
      · have hn46 : ((d.toNat : Int) == 46) = false := by
          rw [beq_eq_false_iff_ne]; intro e; apply hdot; apply UInt8.toNat_inj.1; show d.toNat = 46; omega
        have HN2 : Hid (ev (i + 1) = e0) := Lib.hid (by rw [HN.out, if_neg hdot])
        clear hdot HN
        go_wp2
        all_goals
          go_round
          case rel => exact ⟨i + 1, by omega, by go_num, by rw [HN2.out]⟩
          case measure => simp [intOf]; omega
    · obtain rfl : i = u.length := by omega
      have hl1 : decide (((u.length : Nat) : Int) < ((u.length : Nat) : Int)) = false := by simp
      rw [HEE.out]
      go_wp2
      go_loop [6, 7] (fun s6 s7 => ∃ j : Nat, j ≤ c ∧ s7 = .int .i64 j ∧ s6 = .int .i64 (pn.tdiv (10 ^ (c - j)))) (fun _ s7 => (intOf s7).toNat)
      case atStart => exact ⟨c, Nat.le_refl _, rfl, by rw [Nat.sub_self, Int.pow_zero, Int.tdiv_one]⟩
      case round =>
        obtain ⟨j, hj, rfl, rfl⟩ := hrel
        have hb := tdiv_small (k := c - j) hn1 hn2
        cases j with
        | zero =>
          have hz : Hid (pn.tdiv (10 ^ (c - 0)) = q) := Lib.hid (by rw [Nat.sub_zero]; exact HQ.out)
          rw [hz.out] at hb ⊢
          clear hz
          go_wp2
          exact bodyPost_ret (v := .tuple #[.agg #[.int .i64 1, .int .i64 q, .int .i64 0, .string ⟨#[]⟩, .bool false], .int .i64 0]) (by simp [results, Tryz.results25, go_sem, *]) rfl ⟨rfl, by repeat (with_reducible (first | exact Below.refl _ _ | assumption | apply ba | apply bd | apply bdr | (refine bs ?_ (by first | assumption | (simp; done) | (simp; omega))) | (refine bt ?_ (by assumption))))⟩
        | succ j =>
          have hs := tdiv_tdiv' pn (c - (j + 1))
          rw [show c - (j + 1) + 1 = c - j by omega] at hs
          have hb2 := tdiv_small (k := c - j) hn1 hn2
          obtain ⟨m, hm⟩ : ∃ m, pn.tdiv (10 ^ (c - (j + 1))) = m := ⟨_, rfl⟩
          rw [hm] at hs hb ⊢
          obtain ⟨m2, hm2⟩ : ∃ m2, pn.tdiv (10 ^ (c - j)) = m2 := ⟨_, rfl⟩
          rw [hm2] at hs hb2
          have HM2 := Lib.hid hm2
          have wq : IntKind.i64.wrap (m.tdiv 10) = m2 := by rw [hs, IntKind.wrap_i64]; omega
          have hpos : decide ((0 : Int) < ((j + 1 : Nat) : Int)) = true := by first | (simp; done) | (simp; omega)
          have hw : IntKind.i64.wrap (((j + 1 : Nat) : Int) - 1) = (j : Int) := by rw [IntKind.wrap_i64]; omega
          clear hm hm2 hs
          go_wp2
          go_round
          case rel => exact ⟨j, by omega, by go_num, by rw [HM2.out]⟩
          case measure => simp [intOf]
theorem refCast_txt3to2_bad (l u : List UInt8) (pn pk pe pf : Int) (w : World) (hT50 : Hid (Gives 50 #[.string (ba' l)] (.string (ba' u)))) (HP : Hid (Gives 51 #[.string (ba' u)] (.tuple #[.int .i64 pn, .int .i64 pk, .int .i64 pe]))) (ev : Nat → Int) (hu : u.length ≤ 1048576) (he0 : ev 0 = pe) (hes : ∀ (i : Nat) (h : i < u.length), ev (i + 1) = if u[i] = 46 then ev i else ev i) (hee : ev u.length = pf) (hf : pf = 12) : Calls Tryz.prog 25 #[.agg #[.int .i64 3, .int .i64 0, .int .i64 0, .string (ba' l), .bool false], .int .i64 2] w fun e w' => e = .returned (.tuple #[.agg #[.int .i64 0, .int .i64 0, .int .i64 0, .string ⟨#[]⟩, .bool false], .int .i64 50]) ∧ Below w.heap.size w w' := by
  have hs := size_ba u
  have hs1 : ((ba' u).size : Int) = u.length := by rw [hs]
  have HE0 := Lib.hid he0
  have HES := Lib.hid hes
  have HEE := Lib.hid hee
  clear he0 hes hee
  subst hf
  go_enter Tryz.func25, Tryz.ntmps25
  go_wp2_with (first
    | (go_at_call 50; go_must (refine (hT50.out.call _).mono ?_); rintro e w1 ⟨rfl, hb1⟩; have B1 : Below w.heap.size w w1 := (by repeat (with_reducible (first | exact Below.refl _ _ | assumption | apply ba | apply bd | apply bdr | (refine bs ?_ (by first | assumption | (simp; done) | (simp; omega))) | (refine bt ?_ (by assumption))))); have y1 := B1.size; have hc1_0 := fun o => (bcell hb1).1 (w.heap.size) o (by first | (simp; done) | assumption | (simp; omega)); have hf1_0 := fun o => (bcell hb1).2 (w.heap.size) o (by first | (simp; done) | assumption | (simp; omega)); have z1_0 : w.heap.size < w1.heap.size := zz hb1 (by first | (simp; done) | assumption | (simp; omega)); have hc1_1 := fun o => (bcell hb1).1 (w.heap.size + 1) o (by first | (simp; done) | assumption | (simp; omega)); have hf1_1 := fun o => (bcell hb1).2 (w.heap.size + 1) o (by first | (simp; done) | assumption | (simp; omega)); have z1_1 : w.heap.size + 1 < w1.heap.size := zz hb1 (by first | (simp; done) | assumption | (simp; omega)))
    | (go_at_call 51; go_must (refine (HP.out.call _).mono ?_); rintro e w2 ⟨rfl, hb2⟩; have B2 : Below w.heap.size w w2 := (by repeat (with_reducible (first | exact Below.refl _ _ | assumption | apply ba | apply bd | apply bdr | (refine bs ?_ (by first | assumption | (simp; done) | (simp; omega))) | (refine bt ?_ (by assumption))))); have y2 := B2.size; have hc2_0 := fun o => (bcell hb2).1 (w.heap.size) o (by first | (simp; done) | assumption | (simp; omega)); have hf2_0 := fun o => (bcell hb2).2 (w.heap.size) o (by first | (simp; done) | assumption | (simp; omega)); have z2_0 : w.heap.size < w2.heap.size := zz hb2 (by first | (simp; done) | assumption | (simp; omega)); have hc2_1 := fun o => (bcell hb2).1 (w.heap.size + 1) o (by first | (simp; done) | assumption | (simp; omega)); have hf2_1 := fun o => (bcell hb2).2 (w.heap.size + 1) o (by first | (simp; done) | assumption | (simp; omega)); have z2_1 : w.heap.size + 1 < w2.heap.size := zz hb2 (by first | (simp; done) | assumption | (simp; omega))))
  go_loop [9, 10] (fun s9 s10 => ∃ i : Nat, i ≤ u.length ∧ s10 = .int .i64 i ∧ s9 = .int .i64 (ev i)) (fun _ s10 => u.length - (intOf s10).toNat)
  case atStart => exact ⟨0, Nat.zero_le _, rfl, by rw [HE0.out]⟩
  case round =>
    obtain ⟨i, hi, rfl, rfl⟩ := hrel
    by_cases hlt : i < u.length
    · have hl1 : decide ((i : Int) < (u.length : Int)) = true := by simp; exact hlt
      have hidx : ((ba' u)[i]'(by rw [hs]; exact hlt)).toNat = (u[i]).toNat := rfl
      obtain ⟨d, hd⟩ : ∃ d, u[i] = d := ⟨_, rfl⟩
      have hstep := HES.out i hlt
      rw [hd] at hidx hstep
      obtain ⟨e0, he0⟩ : ∃ e0, ev i = e0 := ⟨_, rfl⟩
      rw [he0] at hstep ⊢
      have HN := Lib.hid hstep
      clear hstep he0 hd
      by_cases hdot : d = 46
      · have hn46 : (d.toNat : Int) = 46 := by rw [hdot]; rfl
        have hb46 : ((d.toNat : Int) == 46) = true := by rw [hn46]; rfl
        have HN2 : Hid (ev (i + 1) = e0) := Lib.hid (by rw [HN.out, if_pos hdot])
        clear hdot hn46 HN
        go_wp2
        all_goals
          go_round
          case rel => exact ⟨i + 1, by omega, by go_num, by rw [HN2.out]⟩
          case measure => simp [intOf]; omega
      · have hn46 : ((d.toNat : Int) == 46) = false := by
          rw [beq_eq_false_iff_ne]; intro e; apply hdot; apply UInt8.toNat_inj.1; show d.toNat = 46; omega
        have HN2 : Hid (ev (i + 1) = e0) := Lib.hid (by rw [HN.out, if_neg hdot])
        clear hdot HN
        go_wp2
        all_goals
          go_round
          case rel => exact ⟨i + 1, by omega, by go_num, by rw [HN2.out]⟩
          case measure => simp [intOf]; omega
    · obtain rfl : i = u.length := by omega
      have hl1 : decide (((u.length : Nat) : Int) < ((u.length : Nat) : Int)) = false := by simp
      rw [HEE.out]
      go_wp2
      exact bodyPost_ret (v := .tuple #[.agg #[.int .i64 0, .int .i64 0, .int .i64 0, .string ⟨#[]⟩, .bool false], .int .i64 50]) (by simp [results, Tryz.results25, go_sem, *]) rfl ⟨rfl, by repeat (with_reducible (first | exact Below.refl _ _ | assumption | apply ba | apply bd | apply bdr | (refine bs ?_ (by first | assumption | (simp; done) | (simp; omega))) | (refine bt ?_ (by assumption))))⟩
theorem refCast_txt3to2_err (l u : List UInt8) (pn pk pe pf : Int) (w : World) (hT50 : Hid (Gives 50 #[.string (ba' l)] (.string (ba' u)))) (HP : Hid (Gives 51 #[.string (ba' u)] (.tuple #[.int .i64 pn, .int .i64 pk, .int .i64 pe]))) (ev : Nat → Int) (hu : u.length ≤ 1048576) (he0 : ev 0 = pe) (hes : ∀ (i : Nat) (h : i < u.length), ev (i + 1) = if u[i] = 46 then ev i else ev i) (hee : ev u.length = pf) (hf : pf ≠ 12) (hf0 : pf ≠ 0) : Calls Tryz.prog 25 #[.agg #[.int .i64 3, .int .i64 0, .int .i64 0, .string (ba' l), .bool false], .int .i64 2] w fun e w' => e = .returned (.tuple #[.agg #[.int .i64 0, .int .i64 0, .int .i64 0, .string ⟨#[]⟩, .bool false], .int .i64 pf]) ∧ Below w.heap.size w w' := by
  have hs := size_ba u
  have hs1 : ((ba' u).size : Int) = u.length := by rw [hs]
  have HE0 := Lib.hid he0
  have HES := Lib.hid hes
  have HEE := Lib.hid hee
  clear he0 hes hee
  have f12 : (pf == 12) = false := by simpa using hf
  have f0 : (pf == 0) = false := by simpa using hf0
  have f1 : (pf != 0) = true := by simpa using hf0
  clear hf hf0
  go_enter Tryz.func25, Tryz.ntmps25
  go_wp2_with (first
    | (go_at_call 50; go_must (refine (hT50.out.call _).mono ?_); rintro e w1 ⟨rfl, hb1⟩; have B1 : Below w.heap.size w w1 := (by repeat (with_reducible (first | exact Below.refl _ _ | assumption | apply ba | apply bd | apply bdr | (refine bs ?_ (by first | assumption | (simp; done) | (simp; omega))) | (refine bt ?_ (by assumption))))); have y1 := B1.size; have hc1_0 := fun o => (bcell hb1).1 (w.heap.size) o (by first | (simp; done) | assumption | (simp; omega)); have hf1_0 := fun o => (bcell hb1).2 (w.heap.size) o (by first | (simp; done) | assumption | (simp; omega)); have z1_0 : w.heap.size < w1.heap.size := zz hb1 (by first | (simp; done) | assumption | (simp; omega)); have hc1_1 := fun o => (bcell hb1).1 (w.heap.size + 1) o (by first | (simp; done) | assumption | (simp; omega)); have hf1_1 := fun o => (bcell hb1).2 (w.heap.size + 1) o (by first | (simp; done) | assumption | (simp; omega)); have z1_1 : w.heap.size + 1 < w1.heap.size := zz hb1 (by first | (simp; done) | assumption | (simp; omega)))
    | (go_at_call 51; go_must (refine (HP.out.call _).mono ?_); rintro e w2 ⟨rfl, hb2⟩; have B2 : Below w.heap.size w w2 := (by repeat (with_reducible (first | exact Below.refl _ _ | assumption | apply ba | apply bd | apply bdr | (refine bs ?_ (by first | assumption | (simp; done) | (simp; omega))) | (refine bt ?_ (by assumption))))); have y2 := B2.size; have hc2_0 := fun o => (bcell hb2).1 (w.heap.size) o (by first | (simp; done) | assumption | (simp; omega)); have hf2_0 := fun o => (bcell hb2).2 (w.heap.size) o (by first | (simp; done) | assumption | (simp; omega)); have z2_0 : w.heap.size < w2.heap.size := zz hb2 (by first | (simp; done) | assumption | (simp; omega)); have hc2_1 := fun o => (bcell hb2).1 (w.heap.size + 1) o (by first | (simp; done) | assumption | (simp; omega)); have hf2_1 := fun o => (bcell hb2).2 (w.heap.size + 1) o (by first | (simp; done) | assumption | (simp; omega)); have z2_1 : w.heap.size + 1 < w2.heap.size := zz hb2 (by first | (simp; done) | assumption | (simp; omega))))
  go_loop [9, 10] (fun s9 s10 => ∃ i : Nat, i ≤ u.length ∧ s10 = .int .i64 i ∧ s9 = .int .i64 (ev i)) (fun _ s10 => u.length - (intOf s10).toNat)
  case atStart => exact ⟨0, Nat.zero_le _, rfl, by rw [HE0.out]⟩
  case round =>
    obtain ⟨i, hi, rfl, rfl⟩ := hrel
    by_cases hlt : i < u.length
    · have hl1 : decide ((i : Int) < (u.length : Int)) = true := by simp; exact hlt
      have hidx : ((ba' u)[i]'(by rw [hs]; exact hlt)).toNat = (u[i]).toNat := rfl
      obtain ⟨d, hd⟩ : ∃ d, u[i] = d := ⟨_, rfl⟩
      have hstep := HES.out i hlt
      rw [hd] at hidx hstep
      obtain ⟨e0, he0⟩ : ∃ e0, ev i = e0 := ⟨_, rfl⟩
      rw [he0] at hstep ⊢
      have HN := Lib.hid hstep
      clear hstep he0 hd
      by_cases hdot : d = 46
      · have hn46 : (d.toNat : Int) = 46 := by rw [hdot]; rfl
        have hb46 : ((d.toNat : Int) == 46) = true := by rw [hn46]; rfl
        have HN2 : Hid (ev (i + 1) = e0) := Lib.hid (by rw [HN.out, if_pos hdot])
        clear hdot hn46 HN
        go_wp2
        all_goals
          go_round
          case rel => exact ⟨i + 1, by omega, by go_num, by rw [HN2.out]⟩
          case measure => simp [intOf]; omega
      · have hn46 : ((d.toNat : Int) == 46) = false := by
          rw [beq_eq_false_iff_ne]; intro e; apply hdot; apply UInt8.toNat_inj.1; show d.toNat = 46; omega
        have HN2 : Hid (ev (i + 1) = e0) := Lib.hid (by rw [HN.out, if_neg hdot])
        clear hdot HN
        go_wp2
        all_goals
          go_round
          case rel => exact ⟨i + 1, by omega, by go_num, by rw [HN2.out]⟩
          case measure => simp [intOf]; omega
    · obtain rfl : i = u.length := by omega
      have hl1 : decide (((u.length : Nat) : Int) < ((u.length : Nat) : Int)) = false := by simp
      rw [HEE.out]
      go_wp2
      exact bodyPost_ret (v := .tuple #[.agg #[.int .i64 0, .int .i64 0, .int .i64 0, .string ⟨#[]⟩, .bool false], .int .i64 pf]) (by simp [results, Tryz.results25, go_sem, *]) rfl ⟨rfl, by repeat (with_reducible (first | exact Below.refl _ _ | assumption | apply ba | apply bd | apply bdr | (refine bs ?_ (by first | assumption | (simp; done) | (simp; omega))) | (refine bt ?_ (by assumption))))⟩
theorem refCast_txt3to2_ok (l u : List UInt8) (pn pk pe pf : Int) (w : World) (hT50 : Hid (Gives 50 #[.string (ba' l)] (.string (ba' u)))) (HP : Hid (Gives 51 #[.string (ba' u)] (.tuple #[.int .i64 pn, .int .i64 pk, .int .i64 pe]))) (ev : Nat → Int) (hu : u.length ≤ 1048576) (he0 : ev 0 = pe) (hes : ∀ (i : Nat) (h : i < u.length), ev (i + 1) = if u[i] = 46 then ev i else ev i) (hee : ev u.length = pf) (hf : pf = 0) : Calls Tryz.prog 25 #[.agg #[.int .i64 3, .int .i64 0, .int .i64 0, .string (ba' l), .bool false], .int .i64 2] w fun e w' => e = .returned (.tuple #[.agg #[.int .i64 2, .int .i64 pn, .int .i64 pk, .string ⟨#[]⟩, .bool false], .int .i64 0]) ∧ Below w.heap.size w w' := by
  have hs := size_ba u
  have hs1 : ((ba' u).size : Int) = u.length := by rw [hs]
  have HE0 := Lib.hid he0
  have HES := Lib.hid hes
  have HEE := Lib.hid hee
  clear he0 hes hee
  subst hf
  go_enter Tryz.func25, Tryz.ntmps25
  go_wp2_with (first
    | (go_at_call 50; go_must (refine (hT50.out.call _).mono ?_); rintro e w1 ⟨rfl, hb1⟩; have B1 : Below w.heap.size w w1 := (by repeat (with_reducible (first | exact Below.refl _ _ | assumption | apply ba | apply bd | apply bdr | (refine bs ?_ (by first | assumption | (simp; done) | (simp; omega))) | (refine bt ?_ (by assumption))))); have y1 := B1.size; have hc1_0 := fun o => (bcell hb1).1 (w.heap.size) o (by first | (simp; done) | assumption | (simp; omega)); have hf1_0 := fun o => (bcell hb1).2 (w.heap.size) o (by first | (simp; done) | assumption | (simp; omega)); have z1_0 : w.heap.size < w1.heap.size := zz hb1 (by first | (simp; done) | assumption | (simp; omega)); have hc1_1 := fun o => (bcell hb1).1 (w.heap.size + 1) o (by first | (simp; done) | assumption | (simp; omega)); have hf1_1 := fun o => (bcell hb1).2 (w.heap.size + 1) o (by first | (simp; done) | assumption | (simp; omega)); have z1_1 : w.heap.size + 1 < w1.heap.size := zz hb1 (by first | (simp; done) | assumption | (simp; omega)))
    | (go_at_call 51; go_must (refine (HP.out.call _).mono ?_); rintro e w2 ⟨rfl, hb2⟩; have B2 : Below w.heap.size w w2 := (by repeat (with_reducible (first | exact Below.refl _ _ | assumption | apply ba | apply bd | apply bdr | (refine bs ?_ (by first | assumption | (simp; done) | (simp; omega))) | (refine bt ?_ (by assumption))))); have y2 := B2.size; have hc2_0 := fun o => (bcell hb2).1 (w.heap.size) o (by first | (simp; done) | assumption | (simp; omega)); have hf2_0 := fun o => (bcell hb2).2 (w.heap.size) o (by first | (simp; done) | assumption | (simp; omega)); have z2_0 : w.heap.size < w2.heap.size := zz hb2 (by first | (simp; done) | assumption | (simp; omega)); have hc2_1 := fun o => (bcell hb2).1 (w.heap.size + 1) o (by first | (simp; done) | assumption | (simp; omega)); have hf2_1 := fun o => (bcell hb2).2 (w.heap.size + 1) o (by first | (simp; done) | assumption | (simp; omega)); have z2_1 : w.heap.size + 1 < w2.heap.size := zz hb2 (by first | (simp; done) | assumption | (simp; omega))))
  go_loop [9, 10] (fun s9 s10 => ∃ i : Nat, i ≤ u.length ∧ s10 = .int .i64 i ∧ s9 = .int .i64 (ev i)) (fun _ s10 => u.length - (intOf s10).toNat)
  case atStart => exact ⟨0, Nat.zero_le _, rfl, by rw [HE0.out]⟩
  case round =>
    obtain ⟨i, hi, rfl, rfl⟩ := hrel
    by_cases hlt : i < u.length
    · have hl1 : decide ((i : Int) < (u.length : Int)) = true := by simp; exact hlt
      have hidx : ((ba' u)[i]'(by rw [hs]; exact hlt)).toNat = (u[i]).toNat := rfl
      obtain ⟨d, hd⟩ : ∃ d, u[i] = d := ⟨_, rfl⟩
      have hstep := HES.out i hlt
      rw [hd] at hidx hstep
      obtain ⟨e0, he0⟩ : ∃ e0, ev i = e0 := ⟨_, rfl⟩
      rw [he0] at hstep ⊢
      have HN := Lib.hid hstep
      clear hstep he0 hd
      by_cases hdot : d = 46
      · have hn46 : (d.toNat : Int) = 46 := by rw [hdot]; rfl
        have hb46 : ((d.toNat : Int) == 46) = true := by rw [hn46]; rfl
        have HN2 : Hid (ev (i + 1) = e0) := Lib.hid (by rw [HN.out, if_pos hdot])
        clear hdot hn46 HN
        go_wp2
        all_goals
          go_round
          case rel => exact ⟨i + 1, by omega, by go_num, by rw [HN2.out]⟩
          case measure => simp [intOf]; omega
      · have hn46 : ((d.toNat : Int) == 46) = false := by
          rw [beq_eq_false_iff_ne]; intro e; apply hdot; apply UInt8.toNat_inj.1; show d.toNat = 46; omega
        have HN2 : Hid (ev (i + 1) = e0) := Lib.hid (by rw [HN.out, if_neg hdot])
        clear hdot HN
        go_wp2
        all_goals
          go_round
          case rel => exact ⟨i + 1, by omega, by go_num, by rw [HN2.out]⟩
          case measure => simp [intOf]; omega
    · obtain rfl : i = u.length := by omega
      have hl1 : decide (((u.length : Nat) : Int) < ((u.length : Nat) : Int)) = false := by simp
      rw [HEE.out]
      go_wp2
      exact bodyPost_ret (v := .tuple #[.agg #[.int .i64 2, .int .i64 pn, .int .i64 pk, .string ⟨#[]⟩, .bool false], .int .i64 0]) (by simp [results, Tryz.results25, go_sem, *]) rfl ⟨rfl, by repeat (with_reducible (first | exact Below.refl _ _ | assumption | apply ba | apply bd | apply bdr | (refine bs ?_ (by first | assumption | (simp; done) | (simp; omega))) | (refine bt ?_ (by assumption))))⟩
theorem refCast_txt5to1_bad (l u : List UInt8) (pn pk pe pf : Int) (w : World) (hT50 : Hid (Gives 50 #[.string (ba' l)] (.string (ba' u)))) (HP : Hid (Gives 51 #[.string (ba' u)] (.tuple #[.int .i64 pn, .int .i64 pk, .int .i64 pe]))) (ev : Nat → Int) (hu : u.length ≤ 1048576) (he0 : ev 0 = pe) (hes : ∀ (i : Nat) (h : i < u.length), ev (i + 1) = if u[i] = 46 then 12 else ev i) (hee : ev u.length = pf) (hf : pf = 12) : Calls Tryz.prog 25 #[.agg #[.int .i64 5, .int .i64 0, .int .i64 0, .string (ba' l), .bool false], .int .i64 1] w fun e w' => e = .returned (.tuple #[.agg #[.int .i64 0, .int .i64 0, .int .i64 0, .string ⟨#[]⟩, .bool false], .int .i64 50]) ∧ Below w.heap.size w w' := by
  have hs := size_ba u
  have hs1 : ((ba' u).size : Int) = u.length := by rw [hs]
  have HE0 := Lib.hid he0
  have HES := Lib.hid hes
  have HEE := Lib.hid hee
  clear he0 hes hee
  subst hf
  go_enter Tryz.func25, Tryz.ntmps25
  go_wp2_with (first
    | (go_at_call 50; go_must (refine (hT50.out.call _).mono ?_); rintro e w1 ⟨rfl, hb1⟩; have B1 : Below w.heap.size w w1 := (by repeat (with_reducible (first | exact Below.refl _ _ | assumption | apply ba | apply bd | apply bdr | (refine bs ?_ (by first | assumption | (simp; done) | (simp; omega))) | (refine bt ?_ (by assumption))))); have y1 := B1.size; have hc1_0 := fun o => (bcell hb1).1 (w.heap.size) o (by first | (simp; done) | assumption | (simp; omega)); have hf1_0 := fun o => (bcell hb1).2 (w.heap.size) o (by first | (simp; done) | assumption | (simp; omega)); have z1_0 : w.heap.size < w1.heap.size := zz hb1 (by first | (simp; done) | assumption | (simp; omega)); have hc1_1 := fun o => (bcell hb1).1 (w.heap.size + 1) o (by first | (simp; done) | assumption | (simp; omega)); have hf1_1 := fun o => (bcell hb1).2 (w.heap.size + 1) o (by first | (simp; done) | assumption | (simp; omega)); have z1_1 : w.heap.size + 1 < w1.heap.size := zz hb1 (by first | (simp; done) | assumption | (simp; omega)))
    | (go_at_call 51; go_must (refine (HP.out.call _).mono ?_); rintro e w2 ⟨rfl, hb2⟩; have B2 : Below w.heap.size w w2 := (by repeat (with_reducible (first | exact Below.refl _ _ | assumption | apply ba | apply bd | apply bdr | (refine bs ?_ (by first | assumption | (simp; done) | (simp; omega))) | (refine bt ?_ (by assumption))))); have y2 := B2.size; have hc2_0 := fun o => (bcell hb2).1 (w.heap.size) o (by first | (simp; done) | assumption | (simp; omega)); have hf2_0 := fun o => (bcell hb2).2 (w.heap.size) o (by first | (simp; done) | assumption | (simp; omega)); have z2_0 : w.heap.size < w2.heap.size := zz hb2 (by first | (simp; done) | assumption | (simp; omega)); have hc2_1 := fun o => (bcell hb2).1 (w.heap.size + 1) o (by first | (simp; done) | assumption | (simp; omega)); have hf2_1 := fun o => (bcell hb2).2 (w.heap.size + 1) o (by first | (simp; done) | assumption | (simp; omega)); have z2_1 : w.heap.size + 1 < w2.heap.size := zz hb2 (by first | (simp; done) | assumption | (simp; omega))))
  go_loop [9, 10] (fun s9 s10 => ∃ i : Nat, i ≤ u.length ∧ s10 = .int .i64 i ∧ s9 = .int .i64 (ev i)) (fun _ s10 => u.length - (intOf s10).toNat)
  case atStart => exact ⟨0, Nat.zero_le _, rfl, by rw [HE0.out]⟩
  case round =>
    obtain ⟨i, hi, rfl, rfl⟩ := hrel
    by_cases hlt : i < u.length
    · have hl1 : decide ((i : Int) < (u.length : Int)) = true := by simp; exact hlt
      have hidx : ((ba' u)[i]'(by rw [hs]; exact hlt)).toNat = (u[i]).toNat := rfl
      obtain ⟨d, hd⟩ : ∃ d, u[i] = d := ⟨_, rfl⟩
      have hstep := HES.out i hlt
      rw [hd] at hidx hstep
      obtain ⟨e0, he0⟩ : ∃ e0, ev i = e0 := ⟨_, rfl⟩
      rw [he0] at hstep ⊢
      have HN := Lib.hid hstep
      clear hstep he0 hd
      by_cases hdot : d = 46
      · have hn46 : (d.toNat : Int) = 46 := by rw [hdot]; rfl
        have hb46 : ((d.toNat : Int) == 46) = true := by rw [hn46]; rfl
        have HN2 : Hid (ev (i + 1) = 12) := Lib.hid (by rw [HN.out, if_pos hdot])
        clear hdot hn46 HN
        go_wp2
        all_goals
          go_round
          case rel => exact ⟨i + 1, by omega, by go_num, by rw [HN2.out]⟩
          case measure => simp [intOf]; omega
      · have hn46 : ((d.toNat : Int) == 46) = false := by
          rw [beq_eq_false_iff_ne]; intro e; apply hdot; apply UInt8.toNat_inj.1; show d.toNat = 46; omega
        have HN2 : Hid (ev (i + 1) = e0) := Lib.hid (by rw [HN.out, if_neg hdot])
        clear hdot HN
        go_wp2
        all_goals
          go_round
          case rel => exact ⟨i + 1, by omega, by go_num, by rw [HN2.out]⟩
          case measure => simp [intOf]; omega
    · obtain rfl : i = u.length := by omega
      have hl1 : decide (((u.length : Nat) : Int) < ((u.length : Nat) : Int)) = false := by simp
      rw [HEE.out]
      go_wp2
      exact bodyPost_ret (v := .tuple #[.agg #[.int .i64 0, .int .i64 0, .int .i64 0, .string ⟨#[]⟩, .bool false], .int .i64 50]) (by simp [results, Tryz.results25, go_sem, *]) rfl ⟨rfl, by repeat (with_reducible (first | exact Below.refl _ _ | assumption | apply ba | apply bd | apply bdr | (refine bs ?_ (by first | assumption | (simp; done) | (simp; omega))) | (refine bt ?_ (by assumption))))⟩
theorem refCast_txt5to1_err (l u : List UInt8) (pn pk pe pf : Int) (w : World) (hT50 : Hid (Gives 50 #[.string (ba' l)] (.string (ba' u)))) (HP : Hid (Gives 51 #[.string (ba' u)] (.tuple #[.int .i64 pn, .int .i64 pk, .int .i64 pe]))) (ev : Nat → Int) (hu : u.length ≤ 1048576) (he0 : ev 0 = pe) (hes : ∀ (i : Nat) (h : i < u.length), ev (i + 1) = if u[i] = 46 then 12 else ev i) (hee : ev u.length = pf) (hf : pf ≠ 12) (hf0 : pf ≠ 0) : Calls Tryz.prog 25 #[.agg #[.int .i64 5, .int .i64 0, .int .i64 0, .string (ba' l), .bool false], .int .i64 1] w fun e w' => e = .returned (.tuple #[.agg #[.int .i64 0, .int .i64 0, .int .i64 0, .string ⟨#[]⟩, .bool false], .int .i64 pf]) ∧ Below w.heap.size w w' := by
  have hs := size_ba u
  have hs1 : ((ba' u).size : Int) = u.length := by rw [hs]
  have HE0 := Lib.hid he0
  have HES := Lib.hid hes
  have HEE := Lib.hid hee
  clear he0 hes hee
  have f12 : (pf == 12) = false := by simpa using hf
  have f0 : (pf == 0) = false := by simpa using hf0
  have f1 : (pf != 0) = true := by simpa using hf0
  clear hf hf0
  go_enter Tryz.func25, Tryz.ntmps25
  go_wp2_with (first
    | (go_at_call 50; go_must (refine (hT50.out.call _).mono ?_); rintro e w1 ⟨rfl, hb1⟩; have B1 : Below w.heap.size w w1 := (by repeat (with_reducible (first | exact Below.refl _ _ | assumption | apply ba | apply bd | apply bdr | (refine bs ?_ (by first | assumption | (simp; done) | (simp; omega))) | (refine bt ?_ (by assumption))))); have y1 := B1.size; have hc1_0 := fun o => (bcell hb1).1 (w.heap.size) o (by first | (simp; done) | assumption | (simp; omega)); have hf1_0 := fun o => (bcell hb1).2 (w.heap.size) o (by first | (simp; done) | assumption | (simp; omega)); have z1_0 : w.heap.size < w1.heap.size := zz hb1 (by first | (simp; done) | assumption | (simp; omega)); have hc1_1 := fun o => (bcell hb1).1 (w.heap.size + 1) o (by first | (simp; done) | assumption | (simp; omega)); have hf1_1 := fun o => (bcell hb1).2 (w.heap.size + 1) o (by first | (simp; done) | assumption | (simp; omega)); have z1_1 : w.heap.size + 1 < w1.heap.size := zz hb1 (by first | (simp; done) | assumption | (simp; omega)))
    | (go_at_call 51; go_must (refine (HP.out.call _).mono ?_); rintro e w2 ⟨rfl, hb2⟩; have B2 : Below w.heap.size w w2 := (by repeat (with_reducible (first | exact Below.refl _ _ | assumption | apply ba | apply bd | apply bdr | (refine bs ?_ (by first | assumption | (simp; done) | (simp; omega))) | (refine bt ?_ (by assumption))))); have y2 := B2.size; have hc2_0 := fun o => (bcell hb2).1 (w.heap.size) o (by first | (simp; done) | assumption | (simp; omega)); have hf2_0 := fun o => (bcell hb2).2 (w.heap.size) o (by first | (simp; done) | assumption | (simp; omega)); have z2_0 : w.heap.size < w2.heap.size := zz hb2 (by first | (simp; done) | assumption | (simp; omega)); have hc2_1 := fun o => (bcell hb2).1 (w.heap.size + 1) o (by first | (simp; done) | assumption | (simp; omega)); have hf2_1 := fun o => (bcell hb2).2 (w.heap.size + 1) o (by first | (simp; done) | assumption | (simp; omega)); have z2_1 : w.heap.size + 1 < w2.heap.size := zz hb2 (by first | (simp; done) | assumption | (simp; omega))))
  go_loop [9, 10] (fun s9 s10 => ∃ i : Nat, i ≤ u.length ∧ s10 = .int .i64 i ∧ s9 = .int .i64 (ev i)) (fun _ s10 => u.length - (intOf s10).toNat)
  case atStart => exact ⟨0, Nat.zero_le _, rfl, by rw [HE0.out]⟩
  case round =>
    obtain ⟨i, hi, rfl, rfl⟩ := hrel
    by_cases hlt : i < u.length
    · have hl1 : decide ((i : Int) < (u.length : Int)) = true := by simp; exact hlt
      have hidx : ((ba' u)[i]'(by rw [hs]; exact hlt)).toNat = (u[i]).toNat := rfl
      obtain ⟨d, hd⟩ : ∃ d, u[i] = d := ⟨_, rfl⟩
      have hstep := HES.out i hlt
      rw [hd] at hidx hstep
      obtain ⟨e0, he0⟩ : ∃ e0, ev i = e0 := ⟨_, rfl⟩
      rw [he0] at hstep ⊢
      have HN := Lib.hid hstep
      clear hstep he0 hd
      by_cases hdot : d = 46
      · have hn46 : (d.toNat : Int) = 46 := by rw [hdot]; rfl
        have hb46 : ((d.toNat : Int) == 46) = true := by rw [hn46]; rfl
        have HN2 : Hid (ev (i + 1) = 12) := Lib.hid (by rw [HN.out, if_pos hdot])
        clear hdot hn46 HN
        go_wp2
        all_goals
          go_round
          case rel => exact ⟨i + 1, by omega, by go_num, by rw [HN2.out]⟩
          case measure => simp [intOf]; omega
      · have hn46 : ((d.toNat : Int) == 46) = false := by
          rw [beq_eq_false_iff_ne]; intro e; apply hdot; apply UInt8.toNat_inj.1; show d.toNat = 46; omega
        have HN2 : Hid (ev (i + 1) = e0) := Lib.hid (by rw [HN.out, if_neg hdot])
        clear hdot HN
        go_wp2
        all_goals
          go_round
          case rel => exact ⟨i + 1, by omega, by go_num, by rw [HN2.out]⟩
          case measure => simp [intOf]; omega
    · obtain rfl : i = u.length := by omega
      have hl1 : decide (((u.length : Nat) : Int) < ((u.length : Nat) : Int)) = false := by simp
      rw [HEE.out]
      go_wp2
      exact bodyPost_ret (v := .tuple #[.agg #[.int .i64 0, .int .i64 0, .int .i64 0, .string ⟨#[]⟩, .bool false], .int .i64 pf]) (by simp [results, Tryz.results25, go_sem, *]) rfl ⟨rfl, by repeat (with_reducible (first | exact Below.refl _ _ | assumption | apply ba | apply bd | apply bdr | (refine bs ?_ (by first | assumption | (simp; done) | (simp; omega))) | (refine bt ?_ (by assumption))))⟩
theorem refCast_txt5to1_ok (l u : List UInt8) (pn pk pe pf : Int) (w : World) (hT50 : Hid (Gives 50 #[.string (ba' l)] (.string (ba' u)))) (HP : Hid (Gives 51 #[.string (ba' u)] (.tuple #[.int .i64 pn, .int .i64 pk, .int .i64 pe]))) (ev : Nat → Int) (hu : u.length ≤ 1048576) (he0 : ev 0 = pe) (hes : ∀ (i : Nat) (h : i < u.length), ev (i + 1) = if u[i] = 46 then 12 else ev i) (hee : ev u.length = pf) (hf : pf = 0) (c : Nat) (hpk : pk = (c : Int)) (n : Int) (hpn : pn = n) (hn1 : -999999999999999999 ≤ n) (hn2 : n ≤ 999999999999999999) (hc9 : c ≤ 9) (q : Int) (hq : n.tdiv (10 ^ c) = q) : Calls Tryz.prog 25 #[.agg #[.int .i64 5, .int .i64 0, .int .i64 0, .string (ba' l), .bool false], .int .i64 1] w fun e w' => e = .returned (.tuple #[.agg #[.int .i64 1, .int .i64 q, .int .i64 0, .string ⟨#[]⟩, .bool false], .int .i64 0]) ∧ Below w.heap.size w w' := by
  have hs := size_ba u
  have hs1 : ((ba' u).size : Int) = u.length := by rw [hs]
  have HE0 := Lib.hid he0
  have HES := Lib.hid hes
  have HEE := Lib.hid hee
  clear he0 hes hee
  subst hf
  subst hpk
  subst hpn
  have HQ := Lib.hid hq
  clear hq
  go_enter Tryz.func25, Tryz.ntmps25
  go_wp2_with (first
    | (go_at_call 50; go_must (refine (hT50.out.call _).mono ?_); rintro e w1 ⟨rfl, hb1⟩; have B1 : Below w.heap.size w w1 := (by repeat (with_reducible (first | exact Below.refl _ _ | assumption | apply ba | apply bd | apply bdr | (refine bs ?_ (by first | assumption | (simp; done) | (simp; omega))) | (refine bt ?_ (by assumption))))); have y1 := B1.size; have hc1_0 := fun o => (bcell hb1).1 (w.heap.size) o (by first | (simp; done) | assumption | (simp; omega)); have hf1_0 := fun o => (bcell hb1).2 (w.heap.size) o (by first | (simp; done) | assumption | (simp; omega)); have z1_0 : w.heap.size < w1.heap.size := zz hb1 (by first | (simp; done) | assumption | (simp; omega)); have hc1_1 := fun o => (bcell hb1).1 (w.heap.size + 1) o (by first | (simp; done) | assumption | (simp; omega)); have hf1_1 := fun o => (bcell hb1).2 (w.heap.size + 1) o (by first | (simp; done) | assumption | (simp; omega)); have z1_1 : w.heap.size + 1 < w1.heap.size := zz hb1 (by first | (simp; done) | assumption | (simp; omega)))
    | (go_at_call 51; go_must (refine (HP.out.call _).mono ?_); rintro e w2 ⟨rfl, hb2⟩; have B2 : Below w.heap.size w w2 := (by repeat (with_reducible (first | exact Below.refl _ _ | assumption | apply ba | apply bd | apply bdr | (refine bs ?_ (by first | assumption | (simp; done) | (simp; omega))) | (refine bt ?_ (by assumption))))); have y2 := B2.size; have hc2_0 := fun o => (bcell hb2).1 (w.heap.size) o (by first | (simp; done) | assumption | (simp; omega)); have hf2_0 := fun o => (bcell hb2).2 (w.heap.size) o (by first | (simp; done) | assumption | (simp; omega)); have z2_0 : w.heap.size < w2.heap.size := zz hb2 (by first | (simp; done) | assumption | (simp; omega)); have hc2_1 := fun o => (bcell hb2).1 (w.heap.size + 1) o (by first | (simp; done) | assumption | (simp; omega)); have hf2_1 := fun o => (bcell hb2).2 (w.heap.size + 1) o (by first | (simp; done) | assumption | (simp; omega)); have z2_1 : w.heap.size + 1 < w2.heap.size := zz hb2 (by first | (simp; done) | assumption | (simp; omega))))
  go_loop [9, 10] (fun s9 s10 => ∃ i : Nat, i ≤ u.length ∧ s10 = .int .i64 i ∧ s9 = .int .i64 (ev i)) (fun _ s10 => u.length - (intOf s10).toNat)
  case atStart => exact ⟨0, Nat.zero_le _, rfl, by rw [HE0.out]⟩
  case round =>
    obtain ⟨i, hi, rfl, rfl⟩ := hrel
    by_cases hlt : i < u.length
    · have hl1 : decide ((i : Int) < (u.length : Int)) = true := by simp; exact hlt
      have hidx : ((ba' u)[i]'(by rw [hs]; exact hlt)).toNat = (u[i]).toNat := rfl
      obtain ⟨d, hd⟩ : ∃ d, u[i] = d := ⟨_, rfl⟩
      have hstep := HES.out i hlt
      rw [hd] at hidx hstep
      obtain ⟨e0, he0⟩ : ∃ e0, ev i = e0 := ⟨_, rfl⟩
      rw [he0] at hstep ⊢
      have HN := Lib.hid hstep
      clear hstep he0 hd
      by_cases hdot : d = 46
      · have hn46 : (d.toNat : Int) = 46 := by rw [hdot]; rfl
        have hb46 : ((d.toNat : Int) == 46) = true := by rw [hn46]; rfl
        have HN2 : Hid (ev (i + 1) = 12) := Lib.hid (by rw [HN.out, if_pos hdot])
        clear hdot hn46 HN
        go_wp2
        all_goals
          go_round
          case rel => exact ⟨i + 1, by omega, by go_num, by rw [HN2.out]⟩
          case measure => simp [intOf]; omega
      · have hn46 : ((d.toNat : Int) == 46) = false := by
          rw [beq_eq_false_iff_ne]; intro e; apply hdot; apply UInt8.toNat_inj.1; show d.toNat = 46; omega
        have HN2 : Hid (ev (i + 1) = e0) := Lib.hid (by rw [HN.out, if_neg hdot])
        clear hdot HN
        go_wp2
        all_goals
          go_round
          case rel => exact ⟨i + 1, by omega, by go_num, by rw [HN2.out]⟩
          case measure => simp [intOf]; omega
    · obtain rfl : i = u.length := by omega
      have hl1 : decide (((u.length : Nat) : Int) < ((u.length : Nat) : Int)) = false := by simp
      rw [HEE.out]
      go_wp2
      go_loop [6, 7] (fun s6 s7 => ∃ j : Nat, j ≤ c ∧ s7 = .int .i64 j ∧ s6 = .int .i64 (pn.tdiv (10 ^ (c - j)))) (fun _ s7 => (intOf s7).toNat)
      case atStart => exact ⟨c, Nat.le_refl _, rfl, by rw [Nat.sub_self, Int.pow_zero, Int.tdiv_one]⟩
      case round =>
        obtain ⟨j, hj, rfl, rfl⟩ := hrel
        have hb := tdiv_small (k := c - j) hn1 hn2
        cases j with
        | zero =>
          have hz : Hid (pn.tdiv (10 ^ (c - 0)) = q) := Lib.hid (by rw [Nat.sub_zero]; exact HQ.out)
          rw [hz.out] at hb ⊢
          clear hz
          go_wp2
          exact bodyPost_ret (v := .tuple #[.agg #[.int .i64 1, .int .i64 q, .int .i64 0, .string ⟨#[]⟩, .bool false], .int .i64 0]) (by simp [results, Tryz.results25, go_sem, *]) rfl ⟨rfl, by repeat (with_reducible (first | exact Below.refl _ _ | assumption | apply ba | apply bd | apply bdr | (refine bs ?_ (by first | assumption | (simp; done) | (simp; omega))) | (refine bt ?_ (by assumption))))⟩
        | succ j =>
          have hs := tdiv_tdiv' pn (c - (j + 1))
          rw [show c - (j + 1) + 1 = c - j by omega] at hs
          have hb2 := tdiv_small (k := c - j) hn1 hn2
          obtain ⟨m, hm⟩ : ∃ m, pn.tdiv (10 ^ (c - (j + 1))) = m := ⟨_, rfl⟩
          rw [hm] at hs hb ⊢
          obtain ⟨m2, hm2⟩ : ∃ m2, pn.tdiv (10 ^ (c - j)) = m2 := ⟨_, rfl⟩
          rw [hm2] at hs hb2
          have HM2 := Lib.hid hm2
          have wq : IntKind.i64.wrap (m.tdiv 10) = m2 := by rw [hs, IntKind.wrap_i64]; omega
          have hpos : decide ((0 : Int) < ((j + 1 : Nat) : Int)) = true := by first | (simp; done) | (simp; omega)
          have hw : IntKind.i64.wrap (((j + 1 : Nat) : Int) - 1) = (j : Int) := by rw [IntKind.wrap_i64]; omega
          clear hm hm2 hs
          go_wp2
          go_round
          case rel => exact ⟨j, by omega, by go_num, by rw [HM2.out]⟩
          case measure => simp [intOf]
theorem refCast_txt5to2_bad (l u : List UInt8) (pn pk pe pf : Int) (w : World) (hT50 : Hid (Gives 50 #[.string (ba' l)] (.string (ba' u)))) (HP : Hid (Gives 51 #[.string (ba' u)] (.tuple #[.int .i64 pn, .int .i64 pk, .int .i64 pe]))) (ev : Nat → Int) (hu : u.length ≤ 1048576) (he0 : ev 0 = pe) (hes : ∀ (i : Nat) (h : i < u.length), ev (i + 1) = if u[i] = 46 then ev i else ev i) (hee : ev u.length = pf) (hf : pf = 12) : Calls Tryz.prog 25 #[.agg #[.int .i64 5, .int .i64 0, .int .i64 0, .string (ba' l), .bool false], .int .i64 2] w fun e w' => e = .returned (.tuple #[.agg #[.int .i64 0, .int .i64 0, .int .i64 0, .string ⟨#[]⟩, .bool false], .int .i64 50]) ∧ Below w.heap.size w w' := by
  have hs := size_ba u
  have hs1 : ((ba' u).size : Int) = u.length := by rw [hs]
  have HE0 := Lib.hid he0
  have HES := Lib.hid hes
  have HEE := Lib.hid hee
  clear he0 hes hee
  subst hf
  go_enter Tryz.func25, Tryz.ntmps25
  go_wp2_with (first
    | (go_at_call 50; go_must (refine (hT50.out.call _).mono ?_); rintro e w1 ⟨rfl, hb1⟩; have B1 : Below w.heap.size w w1 := (by repeat (with_reducible (first | exact Below.refl _ _ | assumption | apply ba | apply bd | apply bdr | (refine bs ?_ (by first | assumption | (simp; done) | (simp; omega))) | (refine bt ?_ (by assumption))))); have y1 := B1.size; have hc1_0 := fun o => (bcell hb1).1 (w.heap.size) o (by first | (simp; done) | assumption | (simp; omega)); have hf1_0 := fun o => (bcell hb1).2 (w.heap.size) o (by first | (simp; done) | assumption | (simp; omega)); have z1_0 : w.heap.size < w1.heap.size := zz hb1 (by first | (simp; done) | assumption | (simp; omega)); have hc1_1 := fun o => (bcell hb1).1 (w.heap.size + 1) o (by first | (simp; done) | assumption | (simp; omega)); have hf1_1 := fun o => (bcell hb1).2 (w.heap.size + 1) o (by first | (simp; done) | assumption | (simp; omega)); have z1_1 : w.heap.size + 1 < w1.heap.size := zz hb1 (by first | (simp; done) | assumption | (simp; omega)))
    | (go_at_call 51; go_must (refine (HP.out.call _).mono ?_); rintro e w2 ⟨rfl, hb2⟩; have B2 : Below w.heap.size w w2 := (by repeat (with_reducible (first | exact Below.refl _ _ | assumption | apply ba | apply bd | apply bdr | (refine bs ?_ (by first | assumption | (simp; done) | (simp; omega))) | (refine bt ?_ (by assumption))))); have y2 := B2.size; have hc2_0 := fun o => (bcell hb2).1 (w.heap.size) o (by first | (simp; done) | assumption | (simp; omega)); have hf2_0 := fun o => (bcell hb2).2 (w.heap.size) o (by first | (simp; done) | assumption | (simp; omega)); have z2_0 : w.heap.size < w2.heap.size := zz hb2 (by first | (simp; done) | assumption | (simp; omega)); have hc2_1 := fun o => (bcell hb2).1 (w.heap.size + 1) o (by first | (simp; done) | assumption | (simp; omega)); have hf2_1 := fun o => (bcell hb2).2 (w.heap.size + 1) o (by first | (simp; done) | assumption | (simp; omega)); have z2_1 : w.heap.size + 1 < w2.heap.size := zz hb2 (by first | (simp; done) | assumption | (simp; omega))))
  go_loop [9, 10] (fun s9 s10 => ∃ i : Nat, i ≤ u.length ∧ s10 = .int .i64 i ∧ s9 = .int .i64 (ev i)) (fun _ s10 => u.length - (intOf s10).toNat)
  case atStart => exact ⟨0, Nat.zero_le _, rfl, by rw [HE0.out]⟩
  case round =>
    obtain ⟨i, hi, rfl, rfl⟩ := hrel
    by_cases hlt : i < u.length
    · have hl1 : decide ((i : Int) < (u.length : Int)) = true := by simp; exact hlt
      have hidx : ((ba' u)[i]'(by rw [hs]; exact hlt)).toNat = (u[i]).toNat := rfl
      obtain ⟨d, hd⟩ : ∃ d, u[i] = d := ⟨_, rfl⟩
      have hstep := HES.out i hlt
      rw [hd] at hidx hstep
      obtain ⟨e0, he0⟩ : ∃ e0, ev i = e0 := ⟨_, rfl⟩
      rw [he0] at hstep ⊢
      have HN := Lib.hid hstep
      clear hstep he0 hd
      by_cases hdot : d = 46
      · have hn46 : (d.toNat : Int) = 46 := by rw [hdot]; rfl
        have hb46 : ((d.toNat : Int) == 46) = true := by rw [hn46]; rfl
        have HN2 : Hid (ev (i + 1) = e0) := Lib.hid (by rw [HN.out, if_pos hdot])
        clear hdot hn46 HN
        go_wp2
        all_goals
          go_round
          case rel => exact ⟨i + 1, by omega, by go_num, by rw [HN2.out]⟩
          case measure => simp [intOf]; omega
      · have hn46 : ((d.toNat : Int) == 46) = false := by
          rw [beq_eq_false_iff_ne]; intro e; apply hdot; apply UInt8.toNat_inj.1; show d.toNat = 46; omega
        have HN2 : Hid (ev (i + 1) = e0) := Lib.hid (by rw [HN.out, if_neg hdot])
        clear hdot HN
        go_wp2
        all_goals
          go_round
          case rel => exact ⟨i + 1, by omega, by go_num, by rw [HN2.out]⟩
          case measure => simp [intOf]; omega
    · obtain rfl : i = u.length := by omega
      have hl1 : decide (((u.length : Nat) : Int) < ((u.length : Nat) : Int)) = false := by simp
      rw [HEE.out]
      go_wp2
      exact bodyPost_ret (v := .tuple #[.agg #[.int .i64 0, .int .i64 0, .int .i64 0, .string ⟨#[]⟩, .bool false], .int .i64 50]) (by simp [results, Tryz.results25, go_sem, *]) rfl ⟨rfl, by repeat (with_reducible (first | exact Below.refl _ _ | assumption | apply ba | apply bd | apply bdr | (refine bs ?_ (by first | assumption | (simp; done) | (simp; omega))) | (refine bt ?_ (by assumption))))⟩
theorem refCast_txt5to2_err (l u : List UInt8) (pn pk pe pf : Int) (w : World) (hT50 : Hid (Gives 50 #[.string (ba' l)] (.string (ba' u)))) (HP : Hid (Gives 51 #[.string (ba' u)] (.tuple #[.int .i64 pn, .int .i64 pk, .int .i64 pe]))) (ev : Nat → Int) (hu : u.length ≤ 1048576) (he0 : ev 0 = pe) (hes : ∀ (i : Nat) (h : i < u.length), ev (i + 1) = if u[i] = 46 then ev i else ev i) (hee : ev u.length = pf) (hf : pf ≠ 12) (hf0 : pf ≠ 0) : Calls Tryz.prog 25 #[.agg #[.int .i64 5, .int .i64 0, .int .i64 0, .string (ba' l), .bool false], .int .i64 2] w fun e w' => e = .returned (.tuple #[.agg #[.int .i64 0, .int .i64 0, .int .i64 0, .string ⟨#[]⟩, .bool false], .int .i64 pf]) ∧ Below w.heap.size w w' := by
  have hs := size_ba u
  have hs1 : ((ba' u).size : Int) = u.length := by rw [hs]
  have HE0 := Lib.hid he0
  have HES := Lib.hid hes
  have HEE := Lib.hid hee
  clear he0 hes hee
  have f12 : (pf == 12) = false := by simpa using hf
  have f0 : (pf == 0) = false := by simpa using hf0
  have f1 : (pf != 0) = true := by simpa using hf0
  clear hf hf0
  go_enter Tryz.func25, Tryz.ntmps25
  go_wp2_with (first
    | (go_at_call 50; go_must (refine (hT50.out.call _).mono ?_); rintro e w1 ⟨rfl, hb1⟩; have B1 : Below w.heap.size w w1 := (by repeat (with_reducible (first | exact Below.refl _ _ | assumption | apply ba | apply bd | apply bdr | (refine bs ?_ (by first | assumption | (simp; done) | (simp; omega))) | (refine bt ?_ (by assumption))))); have y1 := B1.size; have hc1_0 := fun o => (bcell hb1).1 (w.heap.size) o (by first | (simp; done) | assumption | (simp; omega)); have hf1_0 := fun o => (bcell hb1).2 (w.heap.size) o (by first | (simp; done) | assumption | (simp; omega)); have z1_0 : w.heap.size < w1.heap.size := zz hb1 (by first | (simp; done) | assumption | (simp; omega)); have hc1_1 := fun o => (bcell hb1).1 (w.heap.size + 1) o (by first | (simp; done) | assumption | (simp; omega)); have hf1_1 := fun o => (bcell hb1).2 (w.heap.size + 1) o (by first | (simp; done) | assumption | (simp; omega)); have z1_1 : w.heap.size + 1 < w1.heap.size := zz hb1 (by first | (simp; done) | assumption | (simp; omega)))
    | (go_at_call 51; go_must (refine (HP.out.call _).mono ?_); rintro e w2 ⟨rfl, hb2⟩; have B2 : Below w.heap.size w w2 := (by repeat (with_reducible (first | exact Below.refl _ _ | assumption | apply ba | apply bd | apply bdr | (refine bs ?_ (by first | assumption | (simp; done) | (simp; omega))) | (refine bt ?_ (by assumption))))); have y2 := B2.size; have hc2_0 := fun o => (bcell hb2).1 (w.heap.size) o (by first | (simp; done) | assumption | (simp; omega)); have hf2_0 := fun o => (bcell hb2).2 (w.heap.size) o (by first | (simp; done) | assumption | (simp; omega)); have z2_0 : w.heap.size < w2.heap.size := zz hb2 (by first | (simp; done) | assumption | (simp; omega)); have hc2_1 := fun o => (bcell hb2).1 (w.heap.size + 1) o (by first | (simp; done) | assumption | (simp; omega)); have hf2_1 := fun o => (bcell hb2).2 (w.heap.size + 1) o (by first | (simp; done) | assumption | (simp; omega)); have z2_1 : w.heap.size + 1 < w2.heap.size := zz hb2 (by first | (simp; done) | assumption | (simp; omega))))
  go_loop [9, 10] (fun s9 s10 => ∃ i : Nat, i ≤ u.length ∧ s10 = .int .i64 i ∧ s9 = .int .i64 (ev i)) (fun _ s10 => u.length - (intOf s10).toNat)
  case atStart => exact ⟨0, Nat.zero_le _, rfl, by rw [HE0.out]⟩
  case round =>
    obtain ⟨i, hi, rfl, rfl⟩ := hrel
    by_cases hlt : i < u.length
    · have hl1 : decide ((i : Int) < (u.length : Int)) = true := by simp; exact hlt
      have hidx : ((ba' u)[i]'(by rw [hs]; exact hlt)).toNat = (u[i]).toNat := rfl
      obtain ⟨d, hd⟩ : ∃ d, u[i] = d := ⟨_, rfl⟩
      have hstep := HES.out i hlt
      rw [hd] at hidx hstep
      obtain ⟨e0, he0⟩ : ∃ e0, ev i = e0 := ⟨_, rfl⟩
      rw [he0] at hstep ⊢
      have HN := Lib.hid hstep
      clear hstep he0 hd
      by_cases hdot : d = 46
      · have hn46 : (d.toNat : Int) = 46 := by rw [hdot]; rfl
        have hb46 : ((d.toNat : Int) == 46) = true := by rw [hn46]; rfl
        have HN2 : Hid (ev (i + 1) = e0) := Lib.hid (by rw [HN.out, if_pos hdot])
        clear hdot hn46 HN
        go_wp2
        all_goals
          go_round
          case rel => exact ⟨i + 1, by omega, by go_num, by rw [HN2.out]⟩
          case measure => simp [intOf]; omega
      · have hn46 : ((d.toNat : Int) == 46) = false := by
          rw [beq_eq_false_iff_ne]; intro e; apply hdot; apply UInt8.toNat_inj.1; show d.toNat = 46; omega
        have HN2 : Hid (ev (i + 1) = e0) := Lib.hid (by rw [HN.out, if_neg hdot])
        clear hdot HN
        go_wp2
        all_goals
          go_round
          case rel => exact ⟨i + 1, by omega, by go_num, by rw [HN2.out]⟩
          case measure => simp [intOf]; omega
    · obtain rfl : i = u.length := by omega
      have hl1 : decide (((u.length : Nat) : Int) < ((u.length : Nat) : Int)) = false := by simp
      rw [HEE.out]
      go_wp2
      exact bodyPost_ret (v := .tuple #[.agg #[.int .i64 0, .int .i64 0, .int .i64 0, .string ⟨#[]⟩, .bool false], .int .i64 pf]) (by simp [results, Tryz.results25, go_sem, *]) rfl ⟨rfl, by repeat (with_reducible (first | exact Below.refl _ _ | assumption | apply ba | apply bd | apply bdr | (refine bs ?_ (by first | assumption | (simp; done) | (simp; omega))) | (refine bt ?_ (by assumption))))⟩
theorem refCast_txt5to2_ok (l u : List UInt8) (pn pk pe pf : Int) (w : World) (hT50 : Hid (Gives 50 #[.string (ba' l)] (.string (ba' u)))) (HP : Hid (Gives 51 #[.string (ba' u)] (.tuple #[.int .i64 pn, .int .i64 pk, .int .i64 pe]))) (ev : Nat → Int) (hu : u.length ≤ 1048576) (he0 : ev 0 = pe) (hes : ∀ (i : Nat) (h : i < u.length), ev (i + 1) = if u[i] = 46 then ev i else ev i) (hee : ev u.length = pf) (hf : pf = 0) : Calls Tryz.prog 25 #[.agg #[.int .i64 5, .int .i64 0, .int .i64 0, .string (ba' l), .bool false], .int .i64 2] w fun e w' => e = .returned (.tuple #[.agg #[.int .i64 2, .int .i64 pn, .int .i64 pk, .string ⟨#[]⟩, .bool false], .int .i64 0]) ∧ Below w.heap.size w w' := by
  have hs := size_ba u
  have hs1 : ((ba' u).size : Int) = u.length := by rw [hs]
  have HE0 := Lib.hid he0
  have HES := Lib.hid hes
  have HEE := Lib.hid hee
  clear he0 hes hee
  subst hf
  go_enter Tryz.func25, Tryz.ntmps25
  go_wp2_with (first
    | (go_at_call 50; go_must (refine (hT50.out.call _).mono ?_); rintro e w1 ⟨rfl, hb1⟩; have B1 : Below w.heap.size w w1 := (by repeat (with_reducible (first | exact Below.refl _ _ | assumption | apply ba | apply bd | apply bdr | (refine bs ?_ (by first | assumption | (simp; done) | (simp; omega))) | (refine bt ?_ (by assumption))))); have y1 := B1.size; have hc1_0 := fun o => (bcell hb1).1 (w.heap.size) o (by first | (simp; done) | assumption | (simp; omega)); have hf1_0 := fun o => (bcell hb1).2 (w.heap.size) o (by first | (simp; done) | assumption | (simp; omega)); have z1_0 : w.heap.size < w1.heap.size := zz hb1 (by first | (simp; done) | assumption | (simp; omega)); have hc1_1 := fun o => (bcell hb1).1 (w.heap.size + 1) o (by first | (simp; done) | assumption | (simp; omega)); have hf1_1 := fun o => (bcell hb1).2 (w.heap.size + 1) o (by first | (simp; done) | assumption | (simp; omega)); have z1_1 : w.heap.size + 1 < w1.heap.size := zz hb1 (by first | (simp; done) | assumption | (simp; omega)))
    | (go_at_call 51; go_must (refine (HP.out.call _).mono ?_); rintro e w2 ⟨rfl, hb2⟩; have B2 : Below w.heap.size w w2 := (by repeat (with_reducible (first | exact Below.refl _ _ | assumption | apply ba | apply bd | apply bdr | (refine bs ?_ (by first | assumption | (simp; done) | (simp; omega))) | (refine bt ?_ (by assumption))))); have y2 := B2.size; have hc2_0 := fun o => (bcell hb2).1 (w.heap.size) o (by first | (simp; done) | assumption | (simp; omega)); have hf2_0 := fun o => (bcell hb2).2 (w.heap.size) o (by first | (simp; done) | assumption | (simp; omega)); have z2_0 : w.heap.size < w2.heap.size := zz hb2 (by first | (simp; done) | assumption | (simp; omega)); have hc2_1 := fun o => (bcell hb2).1 (w.heap.size + 1) o (by first | (simp; done) | assumption | (simp; omega)); have hf2_1 := fun o => (bcell hb2).2 (w.heap.size + 1) o (by first | (simp; done) | assumption | (simp; omega)); have z2_1 : w.heap.size + 1 < w2.heap.size := zz hb2 (by first | (simp; done) | assumption | (simp; omega))))
  go_loop [9, 10] (fun s9 s10 => ∃ i : Nat, i ≤ u.length ∧ s10 = .int .i64 i ∧ s9 = .int .i64 (ev i)) (fun _ s10 => u.length - (intOf s10).toNat)
  case atStart => exact ⟨0, Nat.zero_le _, rfl, by rw [HE0.out]⟩
  case round =>
    obtain ⟨i, hi, rfl, rfl⟩ := hrel
    by_cases hlt : i < u.length
    · have hl1 : decide ((i : Int) < (u.length : Int)) = true := by simp; exact hlt
      have hidx : ((ba' u)[i]'(by rw [hs]; exact hlt)).toNat = (u[i]).toNat := rfl
      obtain ⟨d, hd⟩ : ∃ d, u[i] = d := ⟨_, rfl⟩
      have hstep := HES.out i hlt
      rw [hd] at hidx hstep
      obtain ⟨e0, he0⟩ : ∃ e0, ev i = e0 := ⟨_, rfl⟩
      rw [he0] at hstep ⊢
      have HN := Lib.hid hstep
      clear hstep he0 hd
      by_cases hdot : d = 46
      · have hn46 : (d.toNat : Int) = 46 := by rw [hdot]; rfl
        have hb46 : ((d.toNat : Int) == 46) = true := by rw [hn46]; rfl
        have HN2 : Hid (ev (i + 1) = e0) := Lib.hid (by rw [HN.out, if_pos hdot])
        clear hdot hn46 HN
        go_wp2
        all_goals
          go_round
          case rel => exact ⟨i + 1, by omega, by go_num, by rw [HN2.out]⟩
          case measure => simp [intOf]; omega
      · have hn46 : ((d.toNat : Int) == 46) = false := by
          rw [beq_eq_false_iff_ne]; intro e; apply hdot; apply UInt8.toNat_inj.1; show d.toNat = 46; omega
        have HN2 : Hid (ev (i + 1) = e0) := Lib.hid (by rw [HN.out, if_neg hdot])
        clear hdot HN
        go_wp2
        all_goals
          go_round
          case rel => exact ⟨i + 1, by omega, by go_num, by rw [HN2.out]⟩
          case measure => simp [intOf]; omega
    · obtain rfl : i = u.length := by omega
      have hl1 : decide (((u.length : Nat) : Int) < ((u.length : Nat) : Int)) = false := by simp
      rw [HEE.out]
      go_wp2
      exact bodyPost_ret (v := .tuple #[.agg #[.int .i64 2, .int .i64 pn, .int .i64 pk, .string ⟨#[]⟩, .bool false], .int .i64 0]) (by simp [results, Tryz.results25, go_sem, *]) rfl ⟨rfl, by repeat (with_reducible (first | exact Below.refl _ _ | assumption | apply ba | apply bd | apply bdr | (refine bs ?_ (by first | assumption | (simp; done) | (simp; omega))) | (refine bt ?_ (by assumption))))⟩
theorem refCast_4to1_true  (w : World) : Calls Tryz.prog 25 #[.agg #[.int .i64 4, .int .i64 0, .int .i64 0, .string ⟨#[]⟩, .bool true], .int .i64 1] w fun e w' => e = .returned (.tuple #[.agg #[.int .i64 1, .int .i64 1, .int .i64 0, .string ⟨#[]⟩, .bool false], .int .i64 0]) ∧ Below w.heap.size w w' := by
  go_enter Tryz.func25, Tryz.ntmps25
  go_wp2
  go_loop [6, 7] (fun s6 s7 => s7 = .int .i64 0 ∧ s6 = .int .i64 1) (fun _ s7 => (intOf s7).toNat)
  case atStart => exact ⟨rfl, rfl⟩
  case round =>
    obtain ⟨rfl, rfl⟩ := hrel
    go_wp2
    exact bodyPost_ret (v := .tuple #[.agg #[.int .i64 1, .int .i64 1, .int .i64 0, .string ⟨#[]⟩, .bool false], .int .i64 0]) (by simp [results, Tryz.results25, go_sem, *]) rfl ⟨rfl, by repeat (with_reducible (first | exact Below.refl _ _ | assumption | apply ba | apply bd | apply bdr | (refine bs ?_ (by first | assumption | (simp; done) | (simp; omega))) | (refine bt ?_ (by assumption))))⟩
theorem refCast_4to1_false  (w : World) : Calls Tryz.prog 25 #[.agg #[.int .i64 4, .int .i64 0, .int .i64 0, .string ⟨#[]⟩, .bool false], .int .i64 1] w fun e w' => e = .returned (.tuple #[.agg #[.int .i64 1, .int .i64 0, .int .i64 0, .string ⟨#[]⟩, .bool false], .int .i64 0]) ∧ Below w.heap.size w w' := by
  go_enter Tryz.func25, Tryz.ntmps25
  go_wp2
  go_loop [6, 7] (fun s6 s7 => s7 = .int .i64 0 ∧ s6 = .int .i64 0) (fun _ s7 => (intOf s7).toNat)
  case atStart => exact ⟨rfl, rfl⟩
  case round =>
    obtain ⟨rfl, rfl⟩ := hrel
    go_wp2
    exact bodyPost_ret (v := .tuple #[.agg #[.int .i64 1, .int .i64 0, .int .i64 0, .string ⟨#[]⟩, .bool false], .int .i64 0]) (by simp [results, Tryz.results25, go_sem, *]) rfl ⟨rfl, by repeat (with_reducible (first | exact Below.refl _ _ | assumption | apply ba | apply bd | apply bdr | (refine bs ?_ (by first | assumption | (simp; done) | (simp; omega))) | (refine bt ?_ (by assumption))))⟩
end Go.Proofs.YtemgabmafmehnaaGreatDoor
