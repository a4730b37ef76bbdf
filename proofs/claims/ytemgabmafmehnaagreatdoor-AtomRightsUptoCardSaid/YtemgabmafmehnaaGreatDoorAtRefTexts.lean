/- The reference writes values. No condition beyond what the theorems state. -/
import Derived.Test.YtemgabmafmehnaaGreatDoorAtSmall
import Derived.Test.YtemgabmafmehnaaGreatDoorChTexts
import Derived.Test.YtemgabmafmehnaaGreatDoorDeRefTexts
namespace Go.Proofs.YtemgabmafmehnaaGreatDoor
open Go.Shelf Go.RowKit Go.Proofs.Wide Go.Proofs.Dig
set_option maxRecDepth 100000
set_option maxHeartbeats 4000000
theorem trimRef_gt (l : List UInt8) (hl : l.length ≤ 1048576) : Hid (Gives 50 #[.string (ba' l)] (.string (ba' (trimB l)))) := gives_unfold fun w => (trim_ref (ba' l) w (by rw [size_ba]; omega)).mono fun e w' ⟨i, j, _, _, he, ho, hb⟩ => ⟨by
    rw [he]
    have : (ba' l).extract i j = ba' (trimB l) := by
      generalize (ba' l).extract i j = o at ho ⊢
      obtain ⟨⟨x⟩⟩ := o
      have h : x = trimB l := ho
      rw [h]; rfl
    rw [this], hb ▸ Below.refl _ _⟩
theorem refFormat_gt (n : Int) (k : Nat) (h : RightZ n k) : Hid (Gives 45 #[.int .i64 n, .int .i64 (k : Int)] (.string (ba' (formatL n k)))) := gives_unfold fun w => refFormat_any n k h w
theorem beq_txt' (u v : List UInt8) (r : Bool) (h : decide (u = v) = r) : ((ba' u).toList == (ba' v).toList) = r := by
  rw [toList_ba, toList_ba, ← h]
  by_cases e : u = v <;> simp [e]
theorem refText_int (n : Int) (u : List UInt8) (w : World) (HF : Hid (Gives 45 #[.int .i64 n, .int .i64 0] (.string (ba' u)))) : Calls Tryz.prog 22 #[.agg #[.int .i64 1, .int .i64 n, .int .i64 0, .string ⟨#[]⟩, .bool false]] w fun e w' => e = .returned (.string (ba' u)) ∧ Below w.heap.size w w' := by
  go_enter Tryz.func22, Tryz.ntmps22
  go_wp2_with (first
    | (go_at_call 45; refine (HF.out.call _).mono ?_; rintro e w1 ⟨rfl, hb1⟩; have hc1_0 := fun o => (bcell hb1).1 (w.heap.size) o (by first | (simp; done) | assumption | (simp; omega)); have hf1_0 := fun o => (bcell hb1).2 (w.heap.size) o (by first | (simp; done) | assumption | (simp; omega)); have z1_0 : w.heap.size < w1.heap.size := zz hb1 (by first | (simp; done) | assumption | (simp; omega))))
  go_ret
  exact ⟨rfl, by repeat (with_reducible (first | exact Below.refl _ _ | apply ba | apply bd | apply bdr | (refine bs ?_ (by first | (simp; done) | (simp; omega))) | (refine bt ?_ (by assumption)) | assumption))⟩
theorem refText_dec (n : Int) (c : Int) (u : List UInt8) (w : World) (HF : Hid (Gives 45 #[.int .i64 n, .int .i64 c] (.string (ba' u)))) : Calls Tryz.prog 22 #[.agg #[.int .i64 2, .int .i64 n, .int .i64 c, .string ⟨#[]⟩, .bool false]] w fun e w' => e = .returned (.string (ba' u)) ∧ Below w.heap.size w w' := by
  go_enter Tryz.func22, Tryz.ntmps22
  go_wp2_with (first
    | (go_at_call 45; refine (HF.out.call _).mono ?_; rintro e w1 ⟨rfl, hb1⟩; have hc1_0 := fun o => (bcell hb1).1 (w.heap.size) o (by first | (simp; done) | assumption | (simp; omega)); have hf1_0 := fun o => (bcell hb1).2 (w.heap.size) o (by first | (simp; done) | assumption | (simp; omega)); have z1_0 : w.heap.size < w1.heap.size := zz hb1 (by first | (simp; done) | assumption | (simp; omega))))
  go_ret
  exact ⟨rfl, by repeat (with_reducible (first | exact Below.refl _ _ | apply ba | apply bd | apply bdr | (refine bs ?_ (by first | (simp; done) | (simp; omega))) | (refine bt ?_ (by assumption)) | assumption))⟩
theorem refText_str (l : List UInt8) (w : World) : Calls Tryz.prog 22 #[.agg #[.int .i64 3, .int .i64 0, .int .i64 0, .string (ba' l), .bool false]] w fun e w' => e = .returned (.string (ba' l)) ∧ Below w.heap.size w w' := by
  go_enter Tryz.func22, Tryz.ntmps22
  go_wp2
  go_ret
  exact ⟨rfl, by repeat (with_reducible (first | exact Below.refl _ _ | apply ba | apply bd | apply bdr | (refine bs ?_ (by first | (simp; done) | (simp; omega))) | (refine bt ?_ (by assumption)) | assumption))⟩
theorem refText_raw (l : List UInt8) (w : World) : Calls Tryz.prog 22 #[.agg #[.int .i64 5, .int .i64 0, .int .i64 0, .string (ba' l), .bool false]] w fun e w' => e = .returned (.string (ba' l)) ∧ Below w.heap.size w w' := by
  go_enter Tryz.func22, Tryz.ntmps22
  go_wp2
  go_ret
  exact ⟨rfl, by repeat (with_reducible (first | exact Below.refl _ _ | apply ba | apply bd | apply bdr | (refine bs ?_ (by first | (simp; done) | (simp; omega))) | (refine bt ?_ (by assumption)) | assumption))⟩
theorem refText_true  (w : World) : Calls Tryz.prog 22 #[.agg #[.int .i64 4, .int .i64 0, .int .i64 0, .string ⟨#[]⟩, .bool true]] w fun e w' => e = .returned (.string (ba' [116, 114, 117, 101])) ∧ Below w.heap.size w w' := by
  go_enter Tryz.func22, Tryz.ntmps22
  go_wp2
  go_ret
  exact ⟨rfl, by repeat (with_reducible (first | exact Below.refl _ _ | apply ba | apply bd | apply bdr | (refine bs ?_ (by first | (simp; done) | (simp; omega))) | (refine bt ?_ (by assumption)) | assumption))⟩
theorem refText_false  (w : World) : Calls Tryz.prog 22 #[.agg #[.int .i64 4, .int .i64 0, .int .i64 0, .string ⟨#[]⟩, .bool false]] w fun e w' => e = .returned (.string (ba' [102, 97, 108, 115, 101])) ∧ Below w.heap.size w w' := by
  go_enter Tryz.func22, Tryz.ntmps22
  go_wp2
  go_ret
  exact ⟨rfl, by repeat (with_reducible (first | exact Below.refl _ _ | apply ba | apply bd | apply bdr | (refine bs ?_ (by first | (simp; done) | (simp; omega))) | (refine bt ?_ (by assumption)) | assumption))⟩
end Go.Proofs.YtemgabmafmehnaaGreatDoor
