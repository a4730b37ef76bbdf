/- Package atom writes values and casts them; the plain functions that it is held against. No condition beyond what the theorems state. -/
import Derived.Test.YtemgabmafmehnaaGreatDoorAtReads
import Derived.Test.YtemgabmafmehnaaGreatDoorAtSmall
import Derived.Test.YtemgabmafmehnaaGreatDoorDeRefTexts
import Derived.Test.YtemgabmafmehnaaGreatDoorAtCasts
namespace Go.Proofs.YtemgabmafmehnaaGreatDoor
open Go.Shelf Go.RowKit Go.Proofs.Wide
set_option maxRecDepth 100000
set_option maxHeartbeats 4000000
theorem format_gt (n : Int) (k : Nat) (h : RightZ n k) : Hid (GT 43 #[.agg #[.int .i64 n, .int .i64 (k : Int)]] (.string (ba' (formatL n k)))) := gt_of fun w hT => format_any n k h w hT.2
theorem format_gt0 (n : Int) (h : RightZ n 0) : Hid (GT 43 #[.agg #[.int .i64 n, .int .i64 0]] (.string (ba' (formatL n 0)))) := format_gt n 0 h
theorem string_int (n : Int) (u : List UInt8) (w : World) (hT : TT w) (HF : Hid (GT 43 #[.agg #[.int .i64 n, .int .i64 0]] (.string (ba' u)))) : Calls Tryz.prog 21 #[.agg #[.int .i64 1, .int .i64 n, .int .i64 0, .string ⟨#[]⟩, .bool false]] w fun e w' => e = .returned (.string (ba' u)) ∧ Below w.heap.size w w' := by
  have HT := Lib.hid hT
  clear hT
  go_enter Tryz.func21, Tryz.ntmps21
  go_wp2_with (first
    | (go_at_call 23; refine (atNum_int' n 0 ⟨#[]⟩ false _).mono ?_; rintro e w1 ⟨rfl, hb1⟩; have hc1_0 := fun o => (bcell hb1).1 (w.heap.size) o (by first | (simp; done) | assumption | (simp; omega)); have hf1_0 := fun o => (bcell hb1).2 (w.heap.size) o (by first | (simp; done) | assumption | (simp; omega)); have z1_0 : w.heap.size < w1.heap.size := zz hb1 (by first | (simp; done) | assumption | (simp; omega)))
    | (go_at_call 43; refine (HF.out.call HT.out (by repeat (with_reducible (first | exact Below.refl _ _ | apply ba | apply bd | apply bdr | (refine bs ?_ (by first | (simp; done) | (simp; omega))) | (refine bt ?_ (by assumption)) | assumption)))).mono ?_; rintro e w2 ⟨rfl, hb2⟩; have hc2_0 := fun o => (bcell hb2).1 (w.heap.size) o (by first | (simp; done) | assumption | (simp; omega)); have hf2_0 := fun o => (bcell hb2).2 (w.heap.size) o (by first | (simp; done) | assumption | (simp; omega)); have z2_0 : w.heap.size < w2.heap.size := zz hb2 (by first | (simp; done) | assumption | (simp; omega))))
  go_ret
  exact ⟨rfl, by repeat (with_reducible (first | exact Below.refl _ _ | apply ba | apply bd | apply bdr | (refine bs ?_ (by first | (simp; done) | (simp; omega))) | (refine bt ?_ (by assumption)) | assumption))⟩
theorem string_dec (n c : Int) (u : List UInt8) (w : World) (hT : TT w) (HF : Hid (GT 43 #[.agg #[.int .i64 n, .int .i64 c]] (.string (ba' u)))) : Calls Tryz.prog 21 #[.agg #[.int .i64 2, .int .i64 n, .int .i64 c, .string ⟨#[]⟩, .bool false]] w fun e w' => e = .returned (.string (ba' u)) ∧ Below w.heap.size w w' := by
  have HT := Lib.hid hT
  clear hT
  go_enter Tryz.func21, Tryz.ntmps21
  go_wp2_with (first
    | (go_at_call 23; refine (atNum_dec' n c ⟨#[]⟩ false _).mono ?_; rintro e w1 ⟨rfl, hb1⟩; have hc1_0 := fun o => (bcell hb1).1 (w.heap.size) o (by first | (simp; done) | assumption | (simp; omega)); have hf1_0 := fun o => (bcell hb1).2 (w.heap.size) o (by first | (simp; done) | assumption | (simp; omega)); have z1_0 : w.heap.size < w1.heap.size := zz hb1 (by first | (simp; done) | assumption | (simp; omega)))
    | (go_at_call 43; refine (HF.out.call HT.out (by repeat (with_reducible (first | exact Below.refl _ _ | apply ba | apply bd | apply bdr | (refine bs ?_ (by first | (simp; done) | (simp; omega))) | (refine bt ?_ (by assumption)) | assumption)))).mono ?_; rintro e w2 ⟨rfl, hb2⟩; have hc2_0 := fun o => (bcell hb2).1 (w.heap.size) o (by first | (simp; done) | assumption | (simp; omega)); have hf2_0 := fun o => (bcell hb2).2 (w.heap.size) o (by first | (simp; done) | assumption | (simp; omega)); have z2_0 : w.heap.size < w2.heap.size := zz hb2 (by first | (simp; done) | assumption | (simp; omega))))
  go_ret
  exact ⟨rfl, by repeat (with_reducible (first | exact Below.refl _ _ | apply ba | apply bd | apply bdr | (refine bs ?_ (by first | (simp; done) | (simp; omega))) | (refine bt ?_ (by assumption)) | assumption))⟩
theorem string_str (l : List UInt8) (w : World) : Calls Tryz.prog 21 #[.agg #[.int .i64 3, .int .i64 0, .int .i64 0, .string (ba' l), .bool false]] w fun e w' => e = .returned (.string (ba' l)) ∧ Below w.heap.size w w' := by
  go_enter Tryz.func21, Tryz.ntmps21
  go_wp2
  go_ret
  exact ⟨rfl, by repeat (with_reducible (first | exact Below.refl _ _ | apply ba | apply bd | apply bdr | (refine bs ?_ (by first | (simp; done) | (simp; omega))) | (refine bt ?_ (by assumption)) | assumption))⟩
theorem string_raw (l : List UInt8) (w : World) : Calls Tryz.prog 21 #[.agg #[.int .i64 5, .int .i64 0, .int .i64 0, .string (ba' l), .bool false]] w fun e w' => e = .returned (.string (ba' l)) ∧ Below w.heap.size w w' := by
  go_enter Tryz.func21, Tryz.ntmps21
  go_wp2
  go_ret
  exact ⟨rfl, by repeat (with_reducible (first | exact Below.refl _ _ | apply ba | apply bd | apply bdr | (refine bs ?_ (by first | (simp; done) | (simp; omega))) | (refine bt ?_ (by assumption)) | assumption))⟩
theorem string_true  (w : World) : Calls Tryz.prog 21 #[.agg #[.int .i64 4, .int .i64 0, .int .i64 0, .string ⟨#[]⟩, .bool true]] w fun e w' => e = .returned (.string (ba' [116, 114, 117, 101])) ∧ Below w.heap.size w w' := by
  have HB : Hid (Gives 44 #[.bool true] (.string (ba' [116, 114, 117, 101]))) := same_gives' fun w => Tryz.strconv_FormatBool true w
  go_enter Tryz.func21, Tryz.ntmps21
  go_wp2_with (first
    | (go_at_call 44; refine (HB.out.call _).mono ?_; rintro e w1 ⟨rfl, hb1⟩; have hc1_0 := fun o => (bcell hb1).1 (w.heap.size) o (by first | (simp; done) | assumption | (simp; omega)); have hf1_0 := fun o => (bcell hb1).2 (w.heap.size) o (by first | (simp; done) | assumption | (simp; omega)); have z1_0 : w.heap.size < w1.heap.size := zz hb1 (by first | (simp; done) | assumption | (simp; omega))))
  go_ret
  exact ⟨rfl, by repeat (with_reducible (first | exact Below.refl _ _ | apply ba | apply bd | apply bdr | (refine bs ?_ (by first | (simp; done) | (simp; omega))) | (refine bt ?_ (by assumption)) | assumption))⟩
theorem string_false  (w : World) : Calls Tryz.prog 21 #[.agg #[.int .i64 4, .int .i64 0, .int .i64 0, .string ⟨#[]⟩, .bool false]] w fun e w' => e = .returned (.string (ba' [102, 97, 108, 115, 101])) ∧ Below w.heap.size w w' := by
  have HB : Hid (Gives 44 #[.bool false] (.string (ba' [102, 97, 108, 115, 101]))) := same_gives' fun w => Tryz.strconv_FormatBool false w
  go_enter Tryz.func21, Tryz.ntmps21
  go_wp2_with (first
    | (go_at_call 44; refine (HB.out.call _).mono ?_; rintro e w1 ⟨rfl, hb1⟩; have hc1_0 := fun o => (bcell hb1).1 (w.heap.size) o (by first | (simp; done) | assumption | (simp; omega)); have hf1_0 := fun o => (bcell hb1).2 (w.heap.size) o (by first | (simp; done) | assumption | (simp; omega)); have z1_0 : w.heap.size < w1.heap.size := zz hb1 (by first | (simp; done) | assumption | (simp; omega))))
  go_ret
  exact ⟨rfl, by repeat (with_reducible (first | exact Below.refl _ _ | apply ba | apply bd | apply bdr | (refine bs ?_ (by first | (simp; done) | (simp; omega))) | (refine bt ?_ (by assumption)) | assumption))⟩
theorem cast_to1 (k n c : Int) (s : ByteArray) (b : Bool) (k1 n1 c1 : Int) (s1 : ByteArray) (b1 : Bool) (e1 : Int) (w : World) (hT : TT w) (HR : Hid (GT 42 #[.agg #[.int .i64 k, .int .i64 n, .int .i64 c, .string s, .bool b]] (.bool true))) (HX : Hid (GT 46 #[.agg #[.int .i64 k, .int .i64 n, .int .i64 c, .string s, .bool b]] (.tuple #[.agg #[.int .i64 k1, .int .i64 n1, .int .i64 c1, .string s1, .bool b1], .int .i64 e1]))) : Calls Tryz.prog 24 #[.agg #[.int .i64 k, .int .i64 n, .int .i64 c, .string s, .bool b], .int .i64 1] w fun e w' => e = .returned (.tuple #[.agg #[.int .i64 k1, .int .i64 n1, .int .i64 c1, .string s1, .bool b1], .int .i64 e1]) ∧ Below w.heap.size w w' := by
  have HT := Lib.hid hT
  clear hT
  go_enter Tryz.func24, Tryz.ntmps24
  go_wp2_with (first
    | (go_at_call 42; refine (HR.out.call HT.out (by repeat (with_reducible (first | exact Below.refl _ _ | apply ba | apply bd | apply bdr | (refine bs ?_ (by first | (simp; done) | (simp; omega))) | (refine bt ?_ (by assumption)) | assumption)))).mono ?_; rintro e w1 ⟨rfl, hb1⟩; have hc1_0 := fun o => (bcell hb1).1 (w.heap.size) o (by first | (simp; done) | assumption | (simp; omega)); have hf1_0 := fun o => (bcell hb1).2 (w.heap.size) o (by first | (simp; done) | assumption | (simp; omega)); have z1_0 : w.heap.size < w1.heap.size := zz hb1 (by first | (simp; done) | assumption | (simp; omega)); have hc1_1 := fun o => (bcell hb1).1 (w.heap.size + 1) o (by first | (simp; done) | assumption | (simp; omega)); have hf1_1 := fun o => (bcell hb1).2 (w.heap.size + 1) o (by first | (simp; done) | assumption | (simp; omega)); have z1_1 : w.heap.size + 1 < w1.heap.size := zz hb1 (by first | (simp; done) | assumption | (simp; omega)))
    | (go_at_call 46; refine (HX.out.call HT.out (by repeat (with_reducible (first | exact Below.refl _ _ | apply ba | apply bd | apply bdr | (refine bs ?_ (by first | (simp; done) | (simp; omega))) | (refine bt ?_ (by assumption)) | assumption)))).mono ?_; rintro e w2 ⟨rfl, hb2⟩; have hc2_0 := fun o => (bcell hb2).1 (w.heap.size) o (by first | (simp; done) | assumption | (simp; omega)); have hf2_0 := fun o => (bcell hb2).2 (w.heap.size) o (by first | (simp; done) | assumption | (simp; omega)); have z2_0 : w.heap.size < w2.heap.size := zz hb2 (by first | (simp; done) | assumption | (simp; omega)); have hc2_1 := fun o => (bcell hb2).1 (w.heap.size + 1) o (by first | (simp; done) | assumption | (simp; omega)); have hf2_1 := fun o => (bcell hb2).2 (w.heap.size + 1) o (by first | (simp; done) | assumption | (simp; omega)); have z2_1 : w.heap.size + 1 < w2.heap.size := zz hb2 (by first | (simp; done) | assumption | (simp; omega))))
  exact bodyPost_ret (v := .tuple #[.agg #[.int .i64 k1, .int .i64 n1, .int .i64 c1, .string s1, .bool b1], .int .i64 e1]) (by simp [results, Tryz.results24, go_sem, *]) rfl ⟨rfl, by repeat (with_reducible (first | exact Below.refl _ _ | apply ba | apply bd | apply bdr | (refine bs ?_ (by first | (simp; done) | (simp; omega))) | (refine bt ?_ (by assumption)) | assumption))⟩
theorem cast_to2 (k n c : Int) (s : ByteArray) (b : Bool) (k1 n1 c1 : Int) (s1 : ByteArray) (b1 : Bool) (e1 : Int) (w : World) (hT : TT w) (HR : Hid (GT 42 #[.agg #[.int .i64 k, .int .i64 n, .int .i64 c, .string s, .bool b]] (.bool true))) (HX : Hid (GT 47 #[.agg #[.int .i64 k, .int .i64 n, .int .i64 c, .string s, .bool b]] (.tuple #[.agg #[.int .i64 k1, .int .i64 n1, .int .i64 c1, .string s1, .bool b1], .int .i64 e1]))) : Calls Tryz.prog 24 #[.agg #[.int .i64 k, .int .i64 n, .int .i64 c, .string s, .bool b], .int .i64 2] w fun e w' => e = .returned (.tuple #[.agg #[.int .i64 k1, .int .i64 n1, .int .i64 c1, .string s1, .bool b1], .int .i64 e1]) ∧ Below w.heap.size w w' := by
  have HT := Lib.hid hT
  clear hT
  go_enter Tryz.func24, Tryz.ntmps24
  go_wp2_with (first
    | (go_at_call 42; refine (HR.out.call HT.out (by repeat (with_reducible (first | exact Below.refl _ _ | apply ba | apply bd | apply bdr | (refine bs ?_ (by first | (simp; done) | (simp; omega))) | (refine bt ?_ (by assumption)) | assumption)))).mono ?_; rintro e w1 ⟨rfl, hb1⟩; have hc1_0 := fun o => (bcell hb1).1 (w.heap.size) o (by first | (simp; done) | assumption | (simp; omega)); have hf1_0 := fun o => (bcell hb1).2 (w.heap.size) o (by first | (simp; done) | assumption | (simp; omega)); have z1_0 : w.heap.size < w1.heap.size := zz hb1 (by first | (simp; done) | assumption | (simp; omega)); have hc1_1 := fun o => (bcell hb1).1 (w.heap.size + 1) o (by first | (simp; done) | assumption | (simp; omega)); have hf1_1 := fun o => (bcell hb1).2 (w.heap.size + 1) o (by first | (simp; done) | assumption | (simp; omega)); have z1_1 : w.heap.size + 1 < w1.heap.size := zz hb1 (by first | (simp; done) | assumption | (simp; omega)))
    | (go_at_call 47; refine (HX.out.call HT.out (by repeat (with_reducible (first | exact Below.refl _ _ | apply ba | apply bd | apply bdr | (refine bs ?_ (by first | (simp; done) | (simp; omega))) | (refine bt ?_ (by assumption)) | assumption)))).mono ?_; rintro e w2 ⟨rfl, hb2⟩; have hc2_0 := fun o => (bcell hb2).1 (w.heap.size) o (by first | (simp; done) | assumption | (simp; omega)); have hf2_0 := fun o => (bcell hb2).2 (w.heap.size) o (by first | (simp; done) | assumption | (simp; omega)); have z2_0 : w.heap.size < w2.heap.size := zz hb2 (by first | (simp; done) | assumption | (simp; omega)); have hc2_1 := fun o => (bcell hb2).1 (w.heap.size + 1) o (by first | (simp; done) | assumption | (simp; omega)); have hf2_1 := fun o => (bcell hb2).2 (w.heap.size + 1) o (by first | (simp; done) | assumption | (simp; omega)); have z2_1 : w.heap.size + 1 < w2.heap.size := zz hb2 (by first | (simp; done) | assumption | (simp; omega))))
  exact bodyPost_ret (v := .tuple #[.agg #[.int .i64 k1, .int .i64 n1, .int .i64 c1, .string s1, .bool b1], .int .i64 e1]) (by simp [results, Tryz.results24, go_sem, *]) rfl ⟨rfl, by repeat (with_reducible (first | exact Below.refl _ _ | apply ba | apply bd | apply bdr | (refine bs ?_ (by first | (simp; done) | (simp; omega))) | (refine bt ?_ (by assumption)) | assumption))⟩
theorem cast_to4 (k n c : Int) (s : ByteArray) (b : Bool) (k1 n1 c1 : Int) (s1 : ByteArray) (b1 : Bool) (e1 : Int) (w : World) (hT : TT w) (HR : Hid (GT 42 #[.agg #[.int .i64 k, .int .i64 n, .int .i64 c, .string s, .bool b]] (.bool true))) (HX : Hid (GT 48 #[.agg #[.int .i64 k, .int .i64 n, .int .i64 c, .string s, .bool b]] (.tuple #[.agg #[.int .i64 k1, .int .i64 n1, .int .i64 c1, .string s1, .bool b1], .int .i64 e1]))) : Calls Tryz.prog 24 #[.agg #[.int .i64 k, .int .i64 n, .int .i64 c, .string s, .bool b], .int .i64 4] w fun e w' => e = .returned (.tuple #[.agg #[.int .i64 k1, .int .i64 n1, .int .i64 c1, .string s1, .bool b1], .int .i64 e1]) ∧ Below w.heap.size w w' := by
  have HT := Lib.hid hT
  clear hT
  go_enter Tryz.func24, Tryz.ntmps24
  go_wp2_with (first
    | (go_at_call 42; refine (HR.out.call HT.out (by repeat (with_reducible (first | exact Below.refl _ _ | apply ba | apply bd | apply bdr | (refine bs ?_ (by first | (simp; done) | (simp; omega))) | (refine bt ?_ (by assumption)) | assumption)))).mono ?_; rintro e w1 ⟨rfl, hb1⟩; have hc1_0 := fun o => (bcell hb1).1 (w.heap.size) o (by first | (simp; done) | assumption | (simp; omega)); have hf1_0 := fun o => (bcell hb1).2 (w.heap.size) o (by first | (simp; done) | assumption | (simp; omega)); have z1_0 : w.heap.size < w1.heap.size := zz hb1 (by first | (simp; done) | assumption | (simp; omega)); have hc1_1 := fun o => (bcell hb1).1 (w.heap.size + 1) o (by first | (simp; done) | assumption | (simp; omega)); have hf1_1 := fun o => (bcell hb1).2 (w.heap.size + 1) o (by first | (simp; done) | assumption | (simp; omega)); have z1_1 : w.heap.size + 1 < w1.heap.size := zz hb1 (by first | (simp; done) | assumption | (simp; omega)))
    | (go_at_call 48; refine (HX.out.call HT.out (by repeat (with_reducible (first | exact Below.refl _ _ | apply ba | apply bd | apply bdr | (refine bs ?_ (by first | (simp; done) | (simp; omega))) | (refine bt ?_ (by assumption)) | assumption)))).mono ?_; rintro e w2 ⟨rfl, hb2⟩; have hc2_0 := fun o => (bcell hb2).1 (w.heap.size) o (by first | (simp; done) | assumption | (simp; omega)); have hf2_0 := fun o => (bcell hb2).2 (w.heap.size) o (by first | (simp; done) | assumption | (simp; omega)); have z2_0 : w.heap.size < w2.heap.size := zz hb2 (by first | (simp; done) | assumption | (simp; omega)); have hc2_1 := fun o => (bcell hb2).1 (w.heap.size + 1) o (by first | (simp; done) | assumption | (simp; omega)); have hf2_1 := fun o => (bcell hb2).2 (w.heap.size + 1) o (by first | (simp; done) | assumption | (simp; omega)); have z2_1 : w.heap.size + 1 < w2.heap.size := zz hb2 (by first | (simp; done) | assumption | (simp; omega))))
  exact bodyPost_ret (v := .tuple #[.agg #[.int .i64 k1, .int .i64 n1, .int .i64 c1, .string s1, .bool b1], .int .i64 e1]) (by simp [results, Tryz.results24, go_sem, *]) rfl ⟨rfl, by repeat (with_reducible (first | exact Below.refl _ _ | apply ba | apply bd | apply bdr | (refine bs ?_ (by first | (simp; done) | (simp; omega))) | (refine bt ?_ (by assumption)) | assumption))⟩
theorem cast_to3 (k n c : Int) (s : ByteArray) (b : Bool) (u : List UInt8) (w : World) (hT : TT w) (HR : Hid (GT 42 #[.agg #[.int .i64 k, .int .i64 n, .int .i64 c, .string s, .bool b]] (.bool true))) (HX : Hid (GT 21 #[.agg #[.int .i64 k, .int .i64 n, .int .i64 c, .string s, .bool b]] (.string (ba' u)))) : Calls Tryz.prog 24 #[.agg #[.int .i64 k, .int .i64 n, .int .i64 c, .string s, .bool b], .int .i64 3] w fun e w' => e = .returned (.tuple #[.agg #[.int .i64 3, .int .i64 0, .int .i64 0, .string (ba' u), .bool false], .int .i64 0]) ∧ Below w.heap.size w w' := by
  have HT := Lib.hid hT
  clear hT
  go_enter Tryz.func24, Tryz.ntmps24
  go_wp2_with (first
    | (go_at_call 42; refine (HR.out.call HT.out (by repeat (with_reducible (first | exact Below.refl _ _ | apply ba | apply bd | apply bdr | (refine bs ?_ (by first | (simp; done) | (simp; omega))) | (refine bt ?_ (by assumption)) | assumption)))).mono ?_; rintro e w1 ⟨rfl, hb1⟩; have hc1_0 := fun o => (bcell hb1).1 (w.heap.size) o (by first | (simp; done) | assumption | (simp; omega)); have hf1_0 := fun o => (bcell hb1).2 (w.heap.size) o (by first | (simp; done) | assumption | (simp; omega)); have z1_0 : w.heap.size < w1.heap.size := zz hb1 (by first | (simp; done) | assumption | (simp; omega)); have hc1_1 := fun o => (bcell hb1).1 (w.heap.size + 1) o (by first | (simp; done) | assumption | (simp; omega)); have hf1_1 := fun o => (bcell hb1).2 (w.heap.size + 1) o (by first | (simp; done) | assumption | (simp; omega)); have z1_1 : w.heap.size + 1 < w1.heap.size := zz hb1 (by first | (simp; done) | assumption | (simp; omega)))
    | (go_at_call 21; refine (HX.out.call HT.out (by repeat (with_reducible (first | exact Below.refl _ _ | apply ba | apply bd | apply bdr | (refine bs ?_ (by first | (simp; done) | (simp; omega))) | (refine bt ?_ (by assumption)) | assumption)))).mono ?_; rintro e w2 ⟨rfl, hb2⟩; have hc2_0 := fun o => (bcell hb2).1 (w.heap.size) o (by first | (simp; done) | assumption | (simp; omega)); have hf2_0 := fun o => (bcell hb2).2 (w.heap.size) o (by first | (simp; done) | assumption | (simp; omega)); have z2_0 : w.heap.size < w2.heap.size := zz hb2 (by first | (simp; done) | assumption | (simp; omega)); have hc2_1 := fun o => (bcell hb2).1 (w.heap.size + 1) o (by first | (simp; done) | assumption | (simp; omega)); have hf2_1 := fun o => (bcell hb2).2 (w.heap.size + 1) o (by first | (simp; done) | assumption | (simp; omega)); have z2_1 : w.heap.size + 1 < w2.heap.size := zz hb2 (by first | (simp; done) | assumption | (simp; omega)))
    | (go_at_call 17; refine (atText_any u _).mono ?_; rintro e w3 ⟨rfl, hb3⟩; have hc3_0 := fun o => (bcell hb3).1 (w.heap.size) o (by first | (simp; done) | assumption | (simp; omega)); have hf3_0 := fun o => (bcell hb3).2 (w.heap.size) o (by first | (simp; done) | assumption | (simp; omega)); have z3_0 : w.heap.size < w3.heap.size := zz hb3 (by first | (simp; done) | assumption | (simp; omega)); have hc3_1 := fun o => (bcell hb3).1 (w.heap.size + 1) o (by first | (simp; done) | assumption | (simp; omega)); have hf3_1 := fun o => (bcell hb3).2 (w.heap.size + 1) o (by first | (simp; done) | assumption | (simp; omega)); have z3_1 : w.heap.size + 1 < w3.heap.size := zz hb3 (by first | (simp; done) | assumption | (simp; omega))))
  exact bodyPost_ret (v := .tuple #[.agg #[.int .i64 3, .int .i64 0, .int .i64 0, .string (ba' u), .bool false], .int .i64 0]) (by simp [results, Tryz.results24, go_sem, *]) rfl ⟨rfl, by repeat (with_reducible (first | exact Below.refl _ _ | apply ba | apply bd | apply bdr | (refine bs ?_ (by first | (simp; done) | (simp; omega))) | (refine bt ?_ (by assumption)) | assumption))⟩
theorem cast_to5 (k n c : Int) (s : ByteArray) (b : Bool) (u : List UInt8) (w : World) (hT : TT w) (HR : Hid (GT 42 #[.agg #[.int .i64 k, .int .i64 n, .int .i64 c, .string s, .bool b]] (.bool true))) (HX : Hid (GT 21 #[.agg #[.int .i64 k, .int .i64 n, .int .i64 c, .string s, .bool b]] (.string (ba' u)))) : Calls Tryz.prog 24 #[.agg #[.int .i64 k, .int .i64 n, .int .i64 c, .string s, .bool b], .int .i64 5] w fun e w' => e = .returned (.tuple #[.agg #[.int .i64 5, .int .i64 0, .int .i64 0, .string (ba' u), .bool false], .int .i64 0]) ∧ Below w.heap.size w w' := by
  have HT := Lib.hid hT
  clear hT
  go_enter Tryz.func24, Tryz.ntmps24
  go_wp2_with (first
    | (go_at_call 42; refine (HR.out.call HT.out (by repeat (with_reducible (first | exact Below.refl _ _ | apply ba | apply bd | apply bdr | (refine bs ?_ (by first | (simp; done) | (simp; omega))) | (refine bt ?_ (by assumption)) | assumption)))).mono ?_; rintro e w1 ⟨rfl, hb1⟩; have hc1_0 := fun o => (bcell hb1).1 (w.heap.size) o (by first | (simp; done) | assumption | (simp; omega)); have hf1_0 := fun o => (bcell hb1).2 (w.heap.size) o (by first | (simp; done) | assumption | (simp; omega)); have z1_0 : w.heap.size < w1.heap.size := zz hb1 (by first | (simp; done) | assumption | (simp; omega)); have hc1_1 := fun o => (bcell hb1).1 (w.heap.size + 1) o (by first | (simp; done) | assumption | (simp; omega)); have hf1_1 := fun o => (bcell hb1).2 (w.heap.size + 1) o (by first | (simp; done) | assumption | (simp; omega)); have z1_1 : w.heap.size + 1 < w1.heap.size := zz hb1 (by first | (simp; done) | assumption | (simp; omega)))
    | (go_at_call 21; refine (HX.out.call HT.out (by repeat (with_reducible (first | exact Below.refl _ _ | apply ba | apply bd | apply bdr | (refine bs ?_ (by first | (simp; done) | (simp; omega))) | (refine bt ?_ (by assumption)) | assumption)))).mono ?_; rintro e w2 ⟨rfl, hb2⟩; have hc2_0 := fun o => (bcell hb2).1 (w.heap.size) o (by first | (simp; done) | assumption | (simp; omega)); have hf2_0 := fun o => (bcell hb2).2 (w.heap.size) o (by first | (simp; done) | assumption | (simp; omega)); have z2_0 : w.heap.size < w2.heap.size := zz hb2 (by first | (simp; done) | assumption | (simp; omega)); have hc2_1 := fun o => (bcell hb2).1 (w.heap.size + 1) o (by first | (simp; done) | assumption | (simp; omega)); have hf2_1 := fun o => (bcell hb2).2 (w.heap.size + 1) o (by first | (simp; done) | assumption | (simp; omega)); have z2_1 : w.heap.size + 1 < w2.heap.size := zz hb2 (by first | (simp; done) | assumption | (simp; omega)))
    | (go_at_call 18; refine (atRaw_any u _).mono ?_; rintro e w3 ⟨rfl, hb3⟩; have hc3_0 := fun o => (bcell hb3).1 (w.heap.size) o (by first | (simp; done) | assumption | (simp; omega)); have hf3_0 := fun o => (bcell hb3).2 (w.heap.size) o (by first | (simp; done) | assumption | (simp; omega)); have z3_0 : w.heap.size < w3.heap.size := zz hb3 (by first | (simp; done) | assumption | (simp; omega)); have hc3_1 := fun o => (bcell hb3).1 (w.heap.size + 1) o (by first | (simp; done) | assumption | (simp; omega)); have hf3_1 := fun o => (bcell hb3).2 (w.heap.size + 1) o (by first | (simp; done) | assumption | (simp; omega)); have z3_1 : w.heap.size + 1 < w3.heap.size := zz hb3 (by first | (simp; done) | assumption | (simp; omega))))
  exact bodyPost_ret (v := .tuple #[.agg #[.int .i64 5, .int .i64 0, .int .i64 0, .string (ba' u), .bool false], .int .i64 0]) (by simp [results, Tryz.results24, go_sem, *]) rfl ⟨rfl, by repeat (with_reducible (first | exact Below.refl _ _ | apply ba | apply bd | apply bdr | (refine bs ?_ (by first | (simp; done) | (simp; omega))) | (refine bt ?_ (by assumption)) | assumption))⟩
theorem cast_no (k n c : Int) (s : ByteArray) (b : Bool) (tk : Int) (w : World) (hT : TT w) (HR : Hid (GT 42 #[.agg #[.int .i64 k, .int .i64 n, .int .i64 c, .string s, .bool b]] (.bool true))) (h : tk ≠ 1 ∧ tk ≠ 2 ∧ tk ≠ 3 ∧ tk ≠ 4 ∧ tk ≠ 5) : Calls Tryz.prog 24 #[.agg #[.int .i64 k, .int .i64 n, .int .i64 c, .string s, .bool b], .int .i64 tk] w fun e w' => e = .returned (.tuple #[.agg #[.int .i64 0, .int .i64 0, .int .i64 0, .string ⟨#[]⟩, .bool false], .int .i64 2]) ∧ Below w.heap.size w w' := by
  have HT := Lib.hid hT
  clear hT
  have h1 : (tk == 1) = false := by simpa using h.1
  have h2 : (tk == 2) = false := by simpa using h.2.1
  have h3 : (tk == 3) = false := by simpa using h.2.2.1
  have h4 : (tk == 4) = false := by simpa using h.2.2.2.1
  have h5 : (tk == 5) = false := by simpa using h.2.2.2.2
  clear h
  go_enter Tryz.func24, Tryz.ntmps24
  go_wp2_with (first
    | (go_at_call 42; refine (HR.out.call HT.out (by repeat (with_reducible (first | exact Below.refl _ _ | apply ba | apply bd | apply bdr | (refine bs ?_ (by first | (simp; done) | (simp; omega))) | (refine bt ?_ (by assumption)) | assumption)))).mono ?_; rintro e w1 ⟨rfl, hb1⟩; have hc1_0 := fun o => (bcell hb1).1 (w.heap.size) o (by first | (simp; done) | assumption | (simp; omega)); have hf1_0 := fun o => (bcell hb1).2 (w.heap.size) o (by first | (simp; done) | assumption | (simp; omega)); have z1_0 : w.heap.size < w1.heap.size := zz hb1 (by first | (simp; done) | assumption | (simp; omega)); have hc1_1 := fun o => (bcell hb1).1 (w.heap.size + 1) o (by first | (simp; done) | assumption | (simp; omega)); have hf1_1 := fun o => (bcell hb1).2 (w.heap.size + 1) o (by first | (simp; done) | assumption | (simp; omega)); have z1_1 : w.heap.size + 1 < w1.heap.size := zz hb1 (by first | (simp; done) | assumption | (simp; omega))))
  exact bodyPost_ret (v := .tuple #[.agg #[.int .i64 0, .int .i64 0, .int .i64 0, .string ⟨#[]⟩, .bool false], .int .i64 2]) (by simp [results, Tryz.results24, go_sem, *]) rfl ⟨rfl, by repeat (with_reducible (first | exact Below.refl _ _ | apply ba | apply bd | apply bdr | (refine bs ?_ (by first | (simp; done) | (simp; omega))) | (refine bt ?_ (by assumption)) | assumption))⟩
theorem castable_yes (k n c : Int) (s : ByteArray) (b : Bool) (k1 n1 c1 : Int) (s1 : ByteArray) (b1 : Bool) (tk : Int) (w : World) (hT : TT w) (HC : Hid (GT 24 #[.agg #[.int .i64 k, .int .i64 n, .int .i64 c, .string s, .bool b], .int .i64 tk] (.tuple #[.agg #[.int .i64 k1, .int .i64 n1, .int .i64 c1, .string s1, .bool b1], .int .i64 0]))) : Calls Tryz.prog 26 #[.agg #[.int .i64 k, .int .i64 n, .int .i64 c, .string s, .bool b], .int .i64 tk] w fun e w' => e = .returned (.bool true) ∧ Below w.heap.size w w' := by
  have HT := Lib.hid hT
  clear hT
  go_enter Tryz.func26, Tryz.ntmps26
  go_wp2_with (first
    | (go_at_call 24; refine (HC.out.call HT.out (by repeat (with_reducible (first | exact Below.refl _ _ | apply ba | apply bd | apply bdr | (refine bs ?_ (by first | (simp; done) | (simp; omega))) | (refine bt ?_ (by assumption)) | assumption)))).mono ?_; rintro e w1 ⟨rfl, hb1⟩; have hc1_0 := fun o => (bcell hb1).1 (w.heap.size) o (by first | (simp; done) | assumption | (simp; omega)); have hf1_0 := fun o => (bcell hb1).2 (w.heap.size) o (by first | (simp; done) | assumption | (simp; omega)); have z1_0 : w.heap.size < w1.heap.size := zz hb1 (by first | (simp; done) | assumption | (simp; omega))))
  go_ret
  exact ⟨rfl, by repeat (with_reducible (first | exact Below.refl _ _ | apply ba | apply bd | apply bdr | (refine bs ?_ (by first | (simp; done) | (simp; omega))) | (refine bt ?_ (by assumption)) | assumption))⟩
theorem castable_no (k n c : Int) (s : ByteArray) (b : Bool) (k1 n1 c1 : Int) (s1 : ByteArray) (b1 : Bool) (e1 : Int) (tk : Int) (w : World) (hT : TT w) (HC : Hid (GT 24 #[.agg #[.int .i64 k, .int .i64 n, .int .i64 c, .string s, .bool b], .int .i64 tk] (.tuple #[.agg #[.int .i64 k1, .int .i64 n1, .int .i64 c1, .string s1, .bool b1], .int .i64 e1]))) (he : e1 ≠ 0) : Calls Tryz.prog 26 #[.agg #[.int .i64 k, .int .i64 n, .int .i64 c, .string s, .bool b], .int .i64 tk] w fun e w' => e = .returned (.bool false) ∧ Below w.heap.size w w' := by
  have HT := Lib.hid hT
  clear hT
  have he0 : (e1 == 0) = false := by simpa using he
  clear he
  go_enter Tryz.func26, Tryz.ntmps26
  go_wp2_with (first
    | (go_at_call 24; refine (HC.out.call HT.out (by repeat (with_reducible (first | exact Below.refl _ _ | apply ba | apply bd | apply bdr | (refine bs ?_ (by first | (simp; done) | (simp; omega))) | (refine bt ?_ (by assumption)) | assumption)))).mono ?_; rintro e w1 ⟨rfl, hb1⟩; have hc1_0 := fun o => (bcell hb1).1 (w.heap.size) o (by first | (simp; done) | assumption | (simp; omega)); have hf1_0 := fun o => (bcell hb1).2 (w.heap.size) o (by first | (simp; done) | assumption | (simp; omega)); have z1_0 : w.heap.size < w1.heap.size := zz hb1 (by first | (simp; done) | assumption | (simp; omega))))
  go_ret
  exact ⟨rfl, by repeat (with_reducible (first | exact Below.refl _ _ | apply ba | apply bd | apply bdr | (refine bs ?_ (by first | (simp; done) | (simp; omega))) | (refine bt ?_ (by assumption)) | assumption))⟩
end Go.Proofs.YtemgabmafmehnaaGreatDoor
namespace Go.Proofs.YtemgabmafmehnaaGreatDoor
open Go.Shelf Go.RowKit Go.Proofs.Wide Go.Proofs.Dig
/-- A value's text. -/
def textZ : AV → List UInt8
  | .int n => formatL n 0
  | .dec n c => formatL n c
  | .str l => l
  | .boo b => if b then [116, 114, 117, 101] else [102, 97, 108, 115, 101]
  | .raw l => l
/-- The number that a text says, or the error. -/
def readZ (t : List UInt8) : Except Int (Int × Nat) :=
  if (parseZ t).2.2 = 12 then .error 50 else if (parseZ t).2.2 ≠ 0 then .error (parseZ t).2.2 else .ok ((parseZ t).1, (parseZ t).2.1.toNat)
def toIntZ : AV → Except Int AV
  | .int n => .ok (.int n)
  | .dec n c => .ok (.int (n.tdiv (10 ^ c)))
  | .boo b => .ok (.int (if b then 1 else 0))
  | .str l => if 46 ∈ l then .error 50 else match readZ (trimB l) with | .error e => .error e | .ok p => .ok (.int (p.1.tdiv (10 ^ p.2)))
  | .raw l => if 46 ∈ l then .error 50 else match readZ (trimB l) with | .error e => .error e | .ok p => .ok (.int (p.1.tdiv (10 ^ p.2)))
def toDecZ : AV → Except Int AV
  | .int n => .ok (.dec n 0)
  | .dec n c => .ok (.dec n c)
  | .boo b => .ok (.dec (if b then 1 else 0) 0)
  | .str l => match readZ (trimB l) with | .error e => .error e | .ok p => .ok (.dec p.1 p.2)
  | .raw l => match readZ (trimB l) with | .error e => .error e | .ok p => .ok (.dec p.1 p.2)
def truthL (t : List UInt8) : Except Int AV :=
  if t = [116, 114, 117, 101] ∨ t = [49] then .ok (.boo true) else if t = [102, 97, 108, 115, 101] ∨ t = [48] then .ok (.boo false) else .error 50
def toBoolZ : AV → Except Int AV
  | .int n => .ok (.boo (decide (n ≠ 0)))
  | .dec n _ => .ok (.boo (decide (n ≠ 0)))
  | .boo b => .ok (.boo b)
  | .str l => truthL (trimB l)
  | .raw l => truthL (trimB l)
/-- A value cast to a kind, or the error. -/
def castZ (a : AV) (k : Int) : Except Int AV :=
  if k = 1 then toIntZ a else if k = 2 then toDecZ a else if k = 3 then .ok (.str (textZ a)) else if k = 4 then toBoolZ a else if k = 5 then .ok (.raw (textZ a)) else .error 2
def noAtom : Value := .agg #[.int .i64 0, .int .i64 0, .int .i64 0, .string ⟨#[]⟩, .bool false]
def outC : Except Int AV → Value
  | .ok a => .tuple #[a.v, .int .i64 0]
  | .error e => .tuple #[noAtom, .int .i64 e]
theorem parse_cases (t : List UInt8) : (∃ n k, RightZ n k ∧ parseZ t = (n, (k : Int), 0)) ∨ parseZ t = (0, 0, 12) ∨ parseZ t = (0, 0, 53) := by
  unfold parseZ parseP
  split
  · exact .inr (.inl rfl)
  · split
    · exact .inr (.inr rfl)
    · generalize hF : fitZ _ _ = F
      cases F with
      | none => exact .inr (.inr rfl)
      | some p =>
        obtain ⟨n, k⟩ := p
        exact .inl ⟨n, k, ((fit_some _ n _ k (List.length_take_le _ _)).1 hF).1, rfl⟩
theorem read_ok {t : List UInt8} {p : Int × Nat} (h : readZ t = .ok p) : RightZ p.1 p.2 ∧ parseZ t = (p.1, (p.2 : Int), 0) := by
  unfold readZ at h
  rcases parse_cases t with ⟨n, k, hr, e⟩ | e | e
  · rw [e] at h; simp at h; subst h; exact ⟨hr, e⟩
  · rw [e] at h; simp at h
  · rw [e] at h; simp at h
theorem read_err {t : List UInt8} {e : Int} (h : readZ t = .error e) : (e = 50 ∧ parseZ t = (0, 0, 12)) ∨ (e = 53 ∧ parseZ t = (0, 0, 53)) := by
  unfold readZ at h
  rcases parse_cases t with ⟨n, k, hr, e'⟩ | e' | e'
  · rw [e'] at h; simp at h
  · rw [e'] at h; simp at h; exact .inl ⟨h.symm, e'⟩
  · rw [e'] at h; simp at h; exact .inr ⟨h.symm, e'⟩
theorem right_whole {n : Int} {k : Nat} (h : RightZ n k) : RightZ (n.tdiv (10 ^ k)) 0 := by
  have hp : (0 : Int) < 10 ^ k := pow_pos' k
  have h1 := h.1; have h2 := h.2.1
  have : (n.tdiv (10 ^ k)).natAbs ≤ n.natAbs := by rw [Int.natAbs_tdiv]; exact Nat.div_le_self _ _
  unfold RightZ; refine ⟨by omega, by omega, by omega, .inl rfl⟩
theorem idiv_one {n : Int} {k : Nat} (h : RightZ n k) : idivZ n k 1 0 = some (n.tdiv (10 ^ k), 0) := by
  have hr := right_whole h
  unfold idivZ lx sc
  have e1 : max k 0 - k = 0 := by omega
  have e2 : max 0 k - 0 = k := by omega
  rw [e1, e2, Int.pow_zero, Int.mul_one, Int.one_mul]
  refine (fit_some _ _ 0 0 (by omega)).2 ⟨hr, ?_⟩
  unfold v9
  rfl
end Go.Proofs.YtemgabmafmehnaaGreatDoor
namespace Go.Proofs.YtemgabmafmehnaaGreatDoor
open Go.Shelf Go.RowKit Go.Proofs.Wide Go.Proofs.Dig
theorem rightB_true {n : Int} {k : Nat} (h : RightZ n k) : rightB (n, (k : Int)) = true := by
  obtain ⟨h1, h2, h3, h4⟩ := h
  unfold rightB
  rw [decide_eq_true_eq]
  refine ⟨h1, h2, by omega, by omega, ?_⟩
  rcases h4 with h | h
  · exact .inl (by simp [h])
  · exact .inr h
theorem rightB_true0 {n : Int} (h : RightZ n 0) : rightB (n, 0) = true := rightB_true (k := 0) h
theorem right_av (a : AV) (h : a.ok) : Hid (GT 42 #[a.v] (.bool true)) := gt_of fun w hT => by
  cases a with
  | int n => have := right_int n w (rz_inI h).1; rw [rightB_true0 h] at this; exact this
  | dec n c => have := right_dec n c w (rz_inI h).1 (rz_inI h).2; rw [rightB_true h] at this; exact this
  | str l => have := right_str l w h.2 hT; rw [h.1] at this; exact this
  | boo b => exact right_boo b w
  | raw l => have := right_raw l w h.2 hT; rw [h.1] at this; exact this
theorem right_avG (a : AV) (h : a.ok) : Hid (GT 42 #[a.v] (.bool true)) := right_av a h
theorem string_av (a : AV) (h : a.ok) : Hid (GT 21 #[a.v] (.string (ba' (textZ a)))) := gt_of fun w hT => by
  cases a with
  | int n => exact string_int n _ w hT (format_gt0 n h)
  | dec n c => exact string_dec n c _ w hT (format_gt n c h)
  | str l => exact string_str l w
  | boo b => cases b
             · exact string_false w
             · exact string_true w
  | raw l => exact string_raw l w
theorem index_none : ∀ (l : List UInt8) (c : UInt8), c ∉ l → Lib.indexByte l c = -1
  | [], _, _ => rfl
  | b :: l, c, h => by
    have h1 : ¬ b = c := fun e => h (by rw [e]; simp)
    have h2 : c ∉ l := fun e => h (List.mem_cons_of_mem _ e)
    unfold Lib.indexByte
    rw [index_none l c h2]
    simp [h1]
theorem index_some : ∀ (l : List UInt8) (c : UInt8), c ∈ l → 0 ≤ Lib.indexByte l c
  | [], _, h => by cases h
  | b :: l, c, h => by
    unfold Lib.indexByte
    by_cases e : b = c
    · simp [e]
    · have : c ∈ l := by
        rcases List.mem_cons.1 h with h | h
        · exact absurd h.symm e
        · exact h
      have ih := index_some l c this
      have e2 : (b == c) = false := by simpa using e
      have e3 : (Lib.indexByte l c == -1) = false := by rw [beq_eq_false_iff_ne]; omega
      rw [e2, e3]; simp; omega
theorem dot_gt (l : List UInt8) : Hid (Gives 75 #[.string (ba' l), .string ⟨#[46]⟩] (.bool (decide (46 ∈ l)))) := same_gives' fun w => by
  have h := Tryz.strings_Contains_one (ba' l) 46 w
  have e : decide (0 ≤ Lib.indexByte (ba' l).data.toList 46) = decide (46 ∈ l) := by
    show decide (0 ≤ Lib.indexByte l 46) = _
    by_cases hm : 46 ∈ l
    · have := index_some l 46 hm; simp [hm, this]
    · rw [index_none l 46 hm]; simp [hm]
  rw [e] at h
  exact h
theorem parse_gt (t : List UInt8) (ht : t.length ≤ 1048576) : Hid (Gives 107 #[.string (ba' t)] (.tuple #[.agg #[.int .i64 (parseZ t).1, .int .i64 (parseZ t).2.1], .int .i64 (parseZ t).2.2])) := gives_unfold fun w => parse_any t (by omega) w
theorem idiv_gt {n : Int} {k : Nat} (h : RightZ n k) : Hid (Gives 77 #[.agg #[.int .i64 n, .int .i64 (k : Int)], .agg #[.int .i64 1, .int .i64 0]] (.tuple #[.agg #[.int .i64 (n.tdiv (10 ^ k)), .int .i64 0], .int .i64 0])) := gives_unfold fun w => by
  have := idiv_any n 1 k 0 h ⟨by decide, by decide, by decide, .inl rfl⟩ (by decide) w
  rw [idiv_one h] at this
  exact this
theorem trimB_len (l : List UInt8) : (trimB l).length ≤ l.length := by
  unfold trimB
  rw [List.length_reverse]
  refine Nat.le_trans (List.dropWhile_sublist _).length_le ?_
  rw [List.length_reverse]
  exact (List.dropWhile_sublist _).length_le
/-- What 'number' answers of a text. -/
def numC : Except Int (Int × Nat) → Value
  | .ok p => .tuple #[.agg #[.int .i64 p.1, .int .i64 (p.2 : Int)], .int .i64 0]
  | .error e => .tuple #[.agg #[.int .i64 0, .int .i64 0], .int .i64 e]
theorem number_str (l : List UInt8) (hl : l.length ≤ 1048576) : Hid (GT 76 #[(AV.str l).v] (numC (readZ (trimB l)))) := gt_of fun w hT => by
  have hp := parse_gt (trimB l) (Nat.le_trans (trimB_len l) hl)
  cases hr : readZ (trimB l) with
  | ok p =>
    obtain ⟨_, e⟩ := read_ok hr
    rw [e] at hp
    exact number_txt3 l _ _ _ _ w hT (trim_gt l hl) hp (by decide)
  | error x =>
    rcases read_err hr with ⟨rfl, e⟩ | ⟨rfl, e⟩
    · rw [e] at hp; exact number_txt3_12 l _ _ _ _ w hT (trim_gt l hl) hp rfl
    · rw [e] at hp; exact number_txt3 l _ _ _ _ w hT (trim_gt l hl) hp (by decide)
theorem number_raw (l : List UInt8) (hl : l.length ≤ 1048576) : Hid (GT 76 #[(AV.raw l).v] (numC (readZ (trimB l)))) := gt_of fun w hT => by
  have hp := parse_gt (trimB l) (Nat.le_trans (trimB_len l) hl)
  cases hr : readZ (trimB l) with
  | ok p =>
    obtain ⟨_, e⟩ := read_ok hr
    rw [e] at hp
    exact number_txt5 l _ _ _ _ w hT (trim_gt l hl) hp (by decide)
  | error x =>
    rcases read_err hr with ⟨rfl, e⟩ | ⟨rfl, e⟩
    · rw [e] at hp; exact number_txt5_12 l _ _ _ _ w hT (trim_gt l hl) hp rfl
    · rw [e] at hp; exact number_txt5 l _ _ _ _ w hT (trim_gt l hl) hp (by decide)
theorem one_right : RightZ 1 0 := ⟨by decide, by decide, by decide, .inl rfl⟩
theorem zero_right : RightZ 0 0 := ⟨by decide, by decide, by decide, .inl rfl⟩
theorem tdiv0 (n : Int) : n.tdiv (10 ^ 0) = n := by rw [Int.pow_zero, Int.tdiv_one]
theorem toInt_av (a : AV) (h : a.ok) : Hid (GT 46 #[a.v] (outC (toIntZ a))) := gt_of fun w hT => by
  have hd0 : Hid (Gives 75 #[.string ⟨#[]⟩, .string ⟨#[46]⟩] (.bool false)) := dot_gt []
  cases a with
  | int n =>
    have hi := idiv_gt h
    rw [tdiv0] at hi
    exact toInt_ok 1 n 0 ⟨#[]⟩ false n 0 n w hT hd0 (gt_of fun w _ => number_int n w) hi
  | dec n c => exact toInt_ok 2 n c ⟨#[]⟩ false n c _ w hT hd0 (gt_of fun w _ => number_dec n c w) (idiv_gt h)
  | boo b =>
    cases b
    · exact toInt_ok 4 0 0 ⟨#[]⟩ false 0 0 0 w hT hd0 (gt_of fun w _ => number_no w) (idiv_gt zero_right)
    · exact toInt_ok 4 0 0 ⟨#[]⟩ true 1 0 1 w hT hd0 (gt_of fun w _ => number_yes w) (idiv_gt one_right)
  | str l =>
    have hd := dot_gt l
    by_cases hm : 46 ∈ l
    · rw [decide_eq_true hm] at hd
      have e : toIntZ (.str l) = .error 50 := by simp only [toIntZ, if_pos hm]
      rw [e]
      exact toInt_dot 3 0 0 (ba' l) false w hT hd
    · rw [decide_eq_false hm] at hd
      have hn := number_str l h.2
      cases hr : readZ (trimB l) with
      | error x =>
        have e : toIntZ (.str l) = .error x := by simp only [toIntZ, if_neg hm, hr]
        rw [e]
        rw [hr] at hn
        refine toInt_err 3 0 0 (ba' l) false 0 0 x w hT hd hn ?_
        rcases read_err hr with ⟨rfl, _⟩ | ⟨rfl, _⟩ <;> decide
      | ok p =>
        have e : toIntZ (.str l) = .ok (.int (p.1.tdiv (10 ^ p.2))) := by simp only [toIntZ, if_neg hm, hr]
        rw [e]
        rw [hr] at hn
        exact toInt_ok 3 0 0 (ba' l) false p.1 p.2 _ w hT hd hn (idiv_gt (read_ok hr).1)
  | raw l =>
    have hd := dot_gt l
    by_cases hm : 46 ∈ l
    · rw [decide_eq_true hm] at hd
      have e : toIntZ (.raw l) = .error 50 := by simp only [toIntZ, if_pos hm]
      rw [e]
      exact toInt_dot 5 0 0 (ba' l) false w hT hd
    · rw [decide_eq_false hm] at hd
      have hn := number_raw l h.2
      cases hr : readZ (trimB l) with
      | error x =>
        have e : toIntZ (.raw l) = .error x := by simp only [toIntZ, if_neg hm, hr]
        rw [e]
        rw [hr] at hn
        refine toInt_err 5 0 0 (ba' l) false 0 0 x w hT hd hn ?_
        rcases read_err hr with ⟨rfl, _⟩ | ⟨rfl, _⟩ <;> decide
      | ok p =>
        have e : toIntZ (.raw l) = .ok (.int (p.1.tdiv (10 ^ p.2))) := by simp only [toIntZ, if_neg hm, hr]
        rw [e]
        rw [hr] at hn
        exact toInt_ok 5 0 0 (ba' l) false p.1 p.2 _ w hT hd hn (idiv_gt (read_ok hr).1)
theorem toDec_av (a : AV) (h : a.ok) : Hid (GT 47 #[a.v] (outC (toDecZ a))) := gt_of fun w hT => by
  cases a with
  | int n => exact toDec_ok 1 n 0 ⟨#[]⟩ false n 0 w hT (gt_of fun w _ => number_int n w)
  | dec n c => exact toDec_ok 2 n c ⟨#[]⟩ false n c w hT (gt_of fun w _ => number_dec n c w)
  | boo b =>
    cases b
    · exact toDec_ok 4 0 0 ⟨#[]⟩ false 0 0 w hT (gt_of fun w _ => number_no w)
    · exact toDec_ok 4 0 0 ⟨#[]⟩ true 1 0 w hT (gt_of fun w _ => number_yes w)
  | str l =>
    have hn := number_str l h.2
    cases hr : readZ (trimB l) with
    | error x =>
      have e : toDecZ (.str l) = .error x := by simp only [toDecZ, hr]
      rw [e]
      rw [hr] at hn
      refine toDec_err 3 0 0 (ba' l) false 0 0 x w hT hn ?_
      rcases read_err hr with ⟨rfl, _⟩ | ⟨rfl, _⟩ <;> decide
    | ok p =>
      have e : toDecZ (.str l) = .ok (.dec p.1 p.2) := by simp only [toDecZ, hr]
      rw [e]
      rw [hr] at hn
      exact toDec_ok 3 0 0 (ba' l) false p.1 p.2 w hT hn
  | raw l =>
    have hn := number_raw l h.2
    cases hr : readZ (trimB l) with
    | error x =>
      have e : toDecZ (.raw l) = .error x := by simp only [toDecZ, hr]
      rw [e]
      rw [hr] at hn
      refine toDec_err 5 0 0 (ba' l) false 0 0 x w hT hn ?_
      rcases read_err hr with ⟨rfl, _⟩ | ⟨rfl, _⟩ <;> decide
    | ok p =>
      have e : toDecZ (.raw l) = .ok (.dec p.1 p.2) := by simp only [toDecZ, hr]
      rw [e]
      rw [hr] at hn
      exact toDec_ok 5 0 0 (ba' l) false p.1 p.2 w hT hn
theorem truthL_cases (u : List UInt8) : (u = [116, 114, 117, 101] ∧ truthL u = .ok (.boo true)) ∨ (u = [49] ∧ truthL u = .ok (.boo true)) ∨ (u = [102, 97, 108, 115, 101] ∧ truthL u = .ok (.boo false)) ∨ (u = [48] ∧ truthL u = .ok (.boo false)) ∨
    (u ≠ [116, 114, 117, 101] ∧ u ≠ [49] ∧ u ≠ [102, 97, 108, 115, 101] ∧ u ≠ [48] ∧ truthL u = .error 50) := by
  by_cases h1 : u = [116, 114, 117, 101]
  · subst h1; exact .inl ⟨rfl, rfl⟩
  by_cases h2 : u = [49]
  · subst h2; exact .inr (.inl ⟨rfl, rfl⟩)
  by_cases h3 : u = [102, 97, 108, 115, 101]
  · subst h3; exact .inr (.inr (.inl ⟨rfl, rfl⟩))
  by_cases h4 : u = [48]
  · subst h4; exact .inr (.inr (.inr (.inl ⟨rfl, rfl⟩)))
  refine .inr (.inr (.inr (.inr ⟨h1, h2, h3, h4, ?_⟩)))
  unfold truthL
  rw [if_neg (by rintro (h | h) <;> contradiction), if_neg (by rintro (h | h) <;> contradiction)]
theorem zero_dec {n : Int} {c : Nat} (h : RightZ n c) (hn : n = 0) : c = 0 := by
  rcases h.2.2.2 with e | e
  · exact e
  · subst hn; exact absurd rfl e
theorem toBool_av (a : AV) (h : a.ok) : Hid (GT 48 #[a.v] (outC (toBoolZ a))) := gt_of fun w hT => by
  cases a with
  | int n =>
    by_cases hn : n = 0
    · subst hn; exact toBool_int_no w
    · have e : toBoolZ (.int n) = .ok (.boo true) := by simp only [toBoolZ, decide_eq_true hn]
      rw [e]; exact toBool_int_yes n w hn
  | dec n c =>
    by_cases hn : n = 0
    · have hc := zero_dec h hn
      subst hn; subst hc; exact toBool_dec_no w
    · have e : toBoolZ (.dec n c) = .ok (.boo true) := by simp only [toBoolZ, decide_eq_true hn]
      rw [e]; exact toBool_dec_yes n c w hn
  | boo b => exact toBool_boo b w
  | str l =>
    have ht := trim_gt l h.2
    show Calls _ _ _ _ (fun e w' => e = .returned (outC (truthL (trimB l))) ∧ _)
    rcases truthL_cases (trimB l) with ⟨e, r⟩ | ⟨e, r⟩ | ⟨e, r⟩ | ⟨e, r⟩ | ⟨h1, h2, h3, h4, r⟩
    · rw [r]; rw [e] at ht; exact toBool_txt3_true l w hT ht
    · rw [r]; rw [e] at ht; exact toBool_txt3_one l w hT ht
    · rw [r]; rw [e] at ht; exact toBool_txt3_false l w hT ht
    · rw [r]; rw [e] at ht; exact toBool_txt3_nought l w hT ht
    · rw [r]; exact toBool_txt3_no l _ w hT ht h1 h2 h3 h4
  | raw l =>
    have ht := trim_gt l h.2
    show Calls _ _ _ _ (fun e w' => e = .returned (outC (truthL (trimB l))) ∧ _)
    rcases truthL_cases (trimB l) with ⟨e, r⟩ | ⟨e, r⟩ | ⟨e, r⟩ | ⟨e, r⟩ | ⟨h1, h2, h3, h4, r⟩
    · rw [r]; rw [e] at ht; exact toBool_txt5_true l w hT ht
    · rw [r]; rw [e] at ht; exact toBool_txt5_one l w hT ht
    · rw [r]; rw [e] at ht; exact toBool_txt5_false l w hT ht
    · rw [r]; rw [e] at ht; exact toBool_txt5_nought l w hT ht
    · rw [r]; exact toBool_txt5_no l _ w hT ht h1 h2 h3 h4
/-- The fields of a value. -/
theorem v_fields (a : AV) : ∃ (k n c : Int) (s : ByteArray) (b : Bool), a.v = .agg #[.int .i64 k, .int .i64 n, .int .i64 c, .string s, .bool b] := by
  cases a <;> exact ⟨_, _, _, _, _, rfl⟩
theorem out_fields (r : Except Int AV) : ∃ (k n c : Int) (s : ByteArray) (b : Bool) (e : Int), outC r = .tuple #[.agg #[.int .i64 k, .int .i64 n, .int .i64 c, .string s, .bool b], .int .i64 e] := by
  cases r with
  | error e => exact ⟨_, _, _, _, _, _, rfl⟩
  | ok a => cases a <;> exact ⟨_, _, _, _, _, _, rfl⟩
theorem cast_av (a : AV) (h : a.ok) (tk : Int) : Hid (GT 24 #[a.v, .int .i64 tk] (outC (castZ a tk))) := gt_of fun w hT => by
  have hR := right_av a h
  have h1 := toInt_av a h
  have h2 := toDec_av a h
  have h3 := string_av a h
  have h4 := toBool_av a h
  obtain ⟨k, n, c, s, b, e⟩ := v_fields a
  by_cases e1 : tk = 1
  · subst e1
    show Calls _ _ _ _ (fun e w' => e = .returned (outC (toIntZ a)) ∧ _)
    obtain ⟨k1, n1, c1, s1, b1, x1, o⟩ := out_fields (toIntZ a)
    rw [o] at h1 ⊢; rw [e] at hR h1 ⊢
    exact cast_to1 k n c s b k1 n1 c1 s1 b1 x1 w hT hR h1
  by_cases e2 : tk = 2
  · subst e2
    show Calls _ _ _ _ (fun e w' => e = .returned (outC (toDecZ a)) ∧ _)
    obtain ⟨k1, n1, c1, s1, b1, x1, o⟩ := out_fields (toDecZ a)
    rw [o] at h2 ⊢; rw [e] at hR h2 ⊢
    exact cast_to2 k n c s b k1 n1 c1 s1 b1 x1 w hT hR h2
  by_cases e3 : tk = 3
  · subst e3
    rw [e] at hR h3 ⊢
    exact cast_to3 k n c s b _ w hT hR h3
  by_cases e4 : tk = 4
  · subst e4
    show Calls _ _ _ _ (fun e w' => e = .returned (outC (toBoolZ a)) ∧ _)
    obtain ⟨k1, n1, c1, s1, b1, x1, o⟩ := out_fields (toBoolZ a)
    rw [o] at h4 ⊢; rw [e] at hR h4 ⊢
    exact cast_to4 k n c s b k1 n1 c1 s1 b1 x1 w hT hR h4
  by_cases e5 : tk = 5
  · subst e5
    rw [e] at hR h3 ⊢
    exact cast_to5 k n c s b _ w hT hR h3
  · have o : castZ a tk = .error 2 := by unfold castZ; rw [if_neg e1, if_neg e2, if_neg e3, if_neg e4, if_neg e5]
    rw [o]; rw [e] at hR ⊢
    exact cast_no k n c s b tk w hT hR ⟨e1, e2, e3, e4, e5⟩
end Go.Proofs.YtemgabmafmehnaaGreatDoor
namespace Go.Proofs.YtemgabmafmehnaaGreatDoor
open Go.Shelf Go.RowKit Go.Proofs.Wide Go.Proofs.Dig
/-- A sign, a point or a digit. -/
def nbyte (c : UInt8) : Prop := c = 45 ∨ c = 46 ∨ (48 ≤ c.toNat ∧ c.toNat ≤ 57)
theorem digit_of {d : Nat} (h : d < 10) : 48 ≤ (UInt8.ofNat (48 + d)).toNat ∧ (UInt8.ofNat (48 + d)).toNat ≤ 57 := by
  rw [UInt8.toNat_ofNat']
  omega
theorem dec_digits : ∀ (u : Nat) (c : UInt8), c ∈ Lib.decDigits u → 48 ≤ c.toNat ∧ c.toNat ≤ 57 := by
  intro u
  induction u using Nat.strongRecOn with
  | _ u ih =>
    intro c hc
    rw [Lib.decDigits] at hc
    split at hc
    · rw [List.mem_singleton] at hc; subst hc; exact digit_of (by omega)
    · rw [List.mem_append] at hc
      rcases hc with hc | hc
      · exact ih (u / 10) (by omega) c hc
      · rw [List.mem_singleton] at hc; subst hc; exact digit_of (by omega)
theorem sgn_byte (n : Int) (c : UInt8) (h : c ∈ sgn n) : c = 45 := by
  unfold sgn at h; split at h <;> simp at h; exact h
theorem pad_byte (n : Int) (k : Nat) (c : UInt8) (h : c ∈ padL n k) : 48 ≤ c.toNat ∧ c.toNat ≤ 57 := by
  unfold padL at h
  rw [List.mem_append] at h
  rcases h with h | h
  · have := (List.mem_replicate.1 h).2; subst this; decide
  · exact dec_digits _ c h
theorem format_byte (n : Int) (k : Nat) (c : UInt8) (h : c ∈ formatL n k) : nbyte c := by
  unfold formatL at h
  split at h
  · rw [List.mem_append] at h
    rcases h with h | h
    · exact .inl (sgn_byte n c h)
    · exact .inr (.inr (dec_digits _ c h))
  · simp only [List.mem_append] at h
    rcases h with ((h | h) | h) | h
    · exact .inl (sgn_byte n c h)
    · exact .inr (.inr (pad_byte n k c (List.mem_of_mem_take h)))
    · simp at h; exact .inr (.inl h)
    · exact .inr (.inr (pad_byte n k c (List.mem_of_mem_drop h)))
theorem format_whole (n : Int) : 46 ∉ formatL n 0 := by
  intro h
  unfold formatL at h
  rw [if_pos rfl, List.mem_append] at h
  rcases h with h | h
  · have := sgn_byte n _ h; cases this
  · have := dec_digits _ _ h; revert this; decide
theorem nbyte_ascii {c : UInt8} (h : nbyte c) : 32 < c.toNat ∧ c.toNat < 127 := by
  rcases h with h | h | h
  · subst h; decide
  · subst h; decide
  · omega
theorem runes_cons (c : UInt8) (l : List UInt8) (h : c.toNat < 128) : runes (c :: l) = c.toNat :: runes l := by
  rw [runes_step _ (by simp)]
  have e : Lib.decodeL (c :: l) = (c.toNat, 1) := Lib.decodeL_ascii c l h
  rw [e]; rfl
theorem valid_plain : ∀ (l : List UInt8), (∀ c ∈ l, 32 ≤ c.toNat ∧ c.toNat < 127) → validX l = true
  | [], _ => by rfl
  | c :: l, h => by
    have hc := h c (by simp)
    have ih := valid_plain l fun x hx => h x (by simp [hx])
    unfold validX at ih ⊢
    rw [Lib.validD_cons c l (by omega), runes_cons c l (by omega), List.all_cons]
    simp only [Bool.and_eq_true] at ih ⊢
    refine ⟨ih.1, ?_, ih.2⟩
    unfold xmlN
    rw [xmlB_iff]
    unfold xmlP
    omega
theorem trim_plain (l : List UInt8) (h : ∀ c ∈ l, spN c = false) : trimB l = l := by
  have key : ∀ l : List UInt8, (∀ c ∈ l, spN c = false) → l.dropWhile spN = l := by
    intro l h
    cases l with
    | nil => rfl
    | cons a l => rw [List.dropWhile_cons, h a (by simp)]; rfl
  unfold trimB
  rw [key l h, key l.reverse (fun c hc => h c (List.mem_reverse.1 hc)), List.reverse_reverse]
theorem space_no {c : UInt8} (h : 32 < c.toNat) : spN c = false := by
  unfold spN
  cases e : spaceB (c.toNat : Int) with
  | false => rfl
  | true =>
    have := (spaceB_iff _).1 e
    unfold spaceP at this
    omega
theorem trim_format (n : Int) (k : Nat) : trimB (formatL n k) = formatL n k := trim_plain _ fun c hc => space_no (nbyte_ascii (format_byte n k c hc)).1
theorem text_ok (a : AV) (h : a.ok) : validX (textZ a) = true ∧ (textZ a).length ≤ 1048576 := by
  cases a with
  | int n => exact ⟨valid_plain _ fun c hc => by have := nbyte_ascii (format_byte n 0 c hc); omega, Nat.le_trans (format_len n 0 h) (by decide)⟩
  | dec n c => exact ⟨valid_plain _ fun x hx => by have := nbyte_ascii (format_byte n c x hx); omega, Nat.le_trans (format_len n c h) (by decide)⟩
  | str l => exact h
  | boo b => cases b
             · exact ⟨valid_plain _ (by decide), by decide⟩
             · exact ⟨valid_plain _ (by decide), by decide⟩
  | raw l => exact h
theorem read_format (n : Int) (k : Nat) (h : RightZ n k) : readZ (trimB (formatL n k)) = .ok (n, k) := by
  rw [trim_format]
  unfold readZ
  rw [parse_format n k h]
  simp
theorem tdiv_zero' (n : Int) : n.tdiv (10 ^ 0) = n := by rw [Int.pow_zero, Int.tdiv_one]
def AV.kind : AV → Int
  | .int _ => 1
  | .dec _ _ => 2
  | .str _ => 3
  | .boo _ => 4
  | .raw _ => 5
theorem truth_text (b : Bool) : truthL (trimB (textZ (.boo b))) = .ok (.boo b) := by
  cases b
  · have : trimB (textZ (.boo false)) = [102, 97, 108, 115, 101] := by decide
    rw [this]; rfl
  · have : trimB (textZ (.boo true)) = [116, 114, 117, 101] := by decide
    rw [this]; rfl
theorem cast_own (a : AV) : castZ a a.kind = .ok a := by
  cases a <;> rfl
theorem cast_str (a : AV) (h : a.ok) : castZ (.str (textZ a)) a.kind = .ok a := by
  cases a with
  | int n =>
    show toIntZ (.str (formatL n 0)) = _
    simp only [toIntZ, if_neg (format_whole n), read_format n 0 h]
    rw [tdiv_zero']
  | dec n c =>
    show toDecZ (.str (formatL n c)) = _
    simp only [toDecZ, read_format n c h]
  | str l => rfl
  | boo b => exact truth_text b
  | raw l => rfl
theorem cast_raw (a : AV) (h : a.ok) : castZ (.raw (textZ a)) a.kind = .ok a := by
  cases a with
  | int n =>
    show toIntZ (.raw (formatL n 0)) = _
    simp only [toIntZ, if_neg (format_whole n), read_format n 0 h]
    rw [tdiv_zero']
  | dec n c =>
    show toDecZ (.raw (formatL n c)) = _
    simp only [toDecZ, read_format n c h]
  | str l => rfl
  | boo b => exact truth_text b
  | raw l => rfl
end Go.Proofs.YtemgabmafmehnaaGreatDoor
namespace Go.Proofs.YtemgabmafmehnaaGreatDoor
open Go.Shelf Go.RowKit Go.Proofs.Wide Go.Proofs.Dig
set_option maxRecDepth 100000
set_option maxHeartbeats 4000000
theorem atRight_one (k n c : Int) (s : ByteArray) (b : Bool) (g cap : Nat) (w : World) (hT : TT w) (hg : g < w.heap.size) (h00 : w.cell? ⟨g, 0, none⟩ = some (.int .i64 k)) (h01 : w.cell? ⟨g, 1, none⟩ = some (.int .i64 n)) (h02 : w.cell? ⟨g, 2, none⟩ = some (.int .i64 c)) (h03 : w.cell? ⟨g, 3, none⟩ = some (.string s)) (h04 : w.cell? ⟨g, 4, none⟩ = some (.bool b)) (H0 : Hid (GT 42 #[.agg #[.int .i64 k, .int .i64 n, .int .i64 c, .string s, .bool b]] (.bool true))) : Calls Tryz.prog 14 #[.slice (some ⟨g, 0, none⟩) 1 cap] w fun e w' => e = .returned (.bool true) ∧ Below w.heap.size w w' := by
  have HT := Lib.hid hT
  clear hT
  go_enter Tryz.func14, Tryz.ntmps14
  go_wp2
  go_loopw [7] (fun s7 wx => ∃ i : Nat, s7 = .int .i64 i ∧ i ≤ 1 ∧ Below w.heap.size w wx) (fun s7 _ => 1 - (intOf s7).toNat)
  case atStart => exact ⟨0, rfl, by omega, by first | exact Below.refl _ _ | assumption⟩
  case round =>
    obtain ⟨i, rfl, hi, hB⟩ := hrel
    have d00 := (hB.cell (p := ⟨g, 0, none⟩) hg).trans h00
    have d01 := (hB.cell (p := ⟨g, 1, none⟩) hg).trans h01
    have d02 := (hB.cell (p := ⟨g, 2, none⟩) hg).trans h02
    have d03 := (hB.cell (p := ⟨g, 3, none⟩) hg).trans h03
    have d04 := (hB.cell (p := ⟨g, 4, none⟩) hg).trans h04
    clear h00 h01 h02 h03 h04
    rcases (by omega : i = 0 ∨ i = 1) with rfl | rfl
    · go_wp2_with (go_at_call 42; go_must (refine (H0.out.call HT.out (by repeat (with_reducible (first | exact Below.refl _ _ | assumption | apply ba | apply bd | apply bdr | (refine bs ?_ (by first | assumption | (simp; done) | (simp; omega))) | (refine bt ?_ (by assumption)))))).mono ?_); rintro e w1 ⟨rfl, hb1⟩)
      go_roundw
      case rel => exact ⟨1, rfl, by omega, by repeat (with_reducible (first | exact Below.refl _ _ | assumption | apply ba | apply bd | apply bdr | (refine bs ?_ (by first | assumption | (simp; done) | (simp; omega))) | (refine bt ?_ (by assumption))))⟩
      case measure => simp [intOf]
    · go_wp2
      go_ret
      exact ⟨rfl, by repeat (with_reducible (first | exact Below.refl _ _ | assumption | apply ba | apply bd | apply bdr | (refine bs ?_ (by first | assumption | (simp; done) | (simp; omega))) | (refine bt ?_ (by assumption))))⟩
theorem atRight_two_yes (k n c : Int) (s : ByteArray) (b : Bool) (g cap : Nat) (w : World) (hT : TT w) (hg : g < w.heap.size) (h00 : w.cell? ⟨g, 0, none⟩ = some (.int .i64 1)) (h01 : w.cell? ⟨g, 1, none⟩ = some (.int .i64 1)) (h02 : w.cell? ⟨g, 2, none⟩ = some (.int .i64 0)) (h03 : w.cell? ⟨g, 3, none⟩ = some (.string ⟨#[]⟩)) (h04 : w.cell? ⟨g, 4, none⟩ = some (.bool false)) (H0 : Hid (GT 42 #[.agg #[.int .i64 1, .int .i64 1, .int .i64 0, .string ⟨#[]⟩, .bool false]] (.bool true))) (h10 : w.cell? ⟨g, 5, none⟩ = some (.int .i64 k)) (h11 : w.cell? ⟨g, 6, none⟩ = some (.int .i64 n)) (h12 : w.cell? ⟨g, 7, none⟩ = some (.int .i64 c)) (h13 : w.cell? ⟨g, 8, none⟩ = some (.string s)) (h14 : w.cell? ⟨g, 9, none⟩ = some (.bool b)) (H1 : Hid (GT 42 #[.agg #[.int .i64 k, .int .i64 n, .int .i64 c, .string s, .bool b]] (.bool true))) : Calls Tryz.prog 14 #[.slice (some ⟨g, 0, none⟩) 2 cap] w fun e w' => e = .returned (.bool true) ∧ Below w.heap.size w w' := by
  have HT := Lib.hid hT
  clear hT
  go_enter Tryz.func14, Tryz.ntmps14
  go_wp2
  go_loopw [7] (fun s7 wx => ∃ i : Nat, s7 = .int .i64 i ∧ i ≤ 2 ∧ Below w.heap.size w wx) (fun s7 _ => 2 - (intOf s7).toNat)
  case atStart => exact ⟨0, rfl, by omega, by first | exact Below.refl _ _ | assumption⟩
  case round =>
    obtain ⟨i, rfl, hi, hB⟩ := hrel
    have d00 := (hB.cell (p := ⟨g, 0, none⟩) hg).trans h00
    have d01 := (hB.cell (p := ⟨g, 1, none⟩) hg).trans h01
    have d02 := (hB.cell (p := ⟨g, 2, none⟩) hg).trans h02
    have d03 := (hB.cell (p := ⟨g, 3, none⟩) hg).trans h03
    have d04 := (hB.cell (p := ⟨g, 4, none⟩) hg).trans h04
    have d10 := (hB.cell (p := ⟨g, 5, none⟩) hg).trans h10
    have d11 := (hB.cell (p := ⟨g, 6, none⟩) hg).trans h11
    have d12 := (hB.cell (p := ⟨g, 7, none⟩) hg).trans h12
    have d13 := (hB.cell (p := ⟨g, 8, none⟩) hg).trans h13
    have d14 := (hB.cell (p := ⟨g, 9, none⟩) hg).trans h14
    clear h00 h01 h02 h03 h04 h10 h11 h12 h13 h14
    rcases (by omega : i = 0 ∨ i = 1 ∨ i = 2) with rfl | rfl | rfl
    · go_wp2_with (go_at_call 42; go_must (refine (H0.out.call HT.out (by repeat (with_reducible (first | exact Below.refl _ _ | assumption | apply ba | apply bd | apply bdr | (refine bs ?_ (by first | assumption | (simp; done) | (simp; omega))) | (refine bt ?_ (by assumption)))))).mono ?_); rintro e w1 ⟨rfl, hb1⟩)
      go_roundw
      case rel => exact ⟨1, rfl, by omega, by repeat (with_reducible (first | exact Below.refl _ _ | assumption | apply ba | apply bd | apply bdr | (refine bs ?_ (by first | assumption | (simp; done) | (simp; omega))) | (refine bt ?_ (by assumption))))⟩
      case measure => simp [intOf]
    · go_wp2_with (go_at_call 42; go_must (refine (H1.out.call HT.out (by repeat (with_reducible (first | exact Below.refl _ _ | assumption | apply ba | apply bd | apply bdr | (refine bs ?_ (by first | assumption | (simp; done) | (simp; omega))) | (refine bt ?_ (by assumption)))))).mono ?_); rintro e w1 ⟨rfl, hb1⟩)
      go_roundw
      case rel => exact ⟨2, rfl, by omega, by repeat (with_reducible (first | exact Below.refl _ _ | assumption | apply ba | apply bd | apply bdr | (refine bs ?_ (by first | assumption | (simp; done) | (simp; omega))) | (refine bt ?_ (by assumption))))⟩
      case measure => simp [intOf]
    · go_wp2
      go_ret
      exact ⟨rfl, by repeat (with_reducible (first | exact Below.refl _ _ | assumption | apply ba | apply bd | apply bdr | (refine bs ?_ (by first | assumption | (simp; done) | (simp; omega))) | (refine bt ?_ (by assumption))))⟩
theorem atRight_two_no (k n c : Int) (s : ByteArray) (b : Bool) (g cap : Nat) (w : World) (hT : TT w) (hg : g < w.heap.size) (h00 : w.cell? ⟨g, 0, none⟩ = some (.int .i64 1)) (h01 : w.cell? ⟨g, 1, none⟩ = some (.int .i64 1)) (h02 : w.cell? ⟨g, 2, none⟩ = some (.int .i64 0)) (h03 : w.cell? ⟨g, 3, none⟩ = some (.string ⟨#[]⟩)) (h04 : w.cell? ⟨g, 4, none⟩ = some (.bool false)) (H0 : Hid (GT 42 #[.agg #[.int .i64 1, .int .i64 1, .int .i64 0, .string ⟨#[]⟩, .bool false]] (.bool true))) (h10 : w.cell? ⟨g, 5, none⟩ = some (.int .i64 k)) (h11 : w.cell? ⟨g, 6, none⟩ = some (.int .i64 n)) (h12 : w.cell? ⟨g, 7, none⟩ = some (.int .i64 c)) (h13 : w.cell? ⟨g, 8, none⟩ = some (.string s)) (h14 : w.cell? ⟨g, 9, none⟩ = some (.bool b)) (H1 : Hid (GT 42 #[.agg #[.int .i64 k, .int .i64 n, .int .i64 c, .string s, .bool b]] (.bool false))) : Calls Tryz.prog 14 #[.slice (some ⟨g, 0, none⟩) 2 cap] w fun e w' => e = .returned (.bool false) ∧ Below w.heap.size w w' := by
  have HT := Lib.hid hT
  clear hT
  go_enter Tryz.func14, Tryz.ntmps14
  go_wp2
  go_loopw [7] (fun s7 wx => ∃ i : Nat, s7 = .int .i64 i ∧ i < 2 ∧ Below w.heap.size w wx) (fun s7 _ => 2 - (intOf s7).toNat)
  case atStart => exact ⟨0, rfl, by omega, by first | exact Below.refl _ _ | assumption⟩
  case round =>
    obtain ⟨i, rfl, hi, hB⟩ := hrel
    have d00 := (hB.cell (p := ⟨g, 0, none⟩) hg).trans h00
    have d01 := (hB.cell (p := ⟨g, 1, none⟩) hg).trans h01
    have d02 := (hB.cell (p := ⟨g, 2, none⟩) hg).trans h02
    have d03 := (hB.cell (p := ⟨g, 3, none⟩) hg).trans h03
    have d04 := (hB.cell (p := ⟨g, 4, none⟩) hg).trans h04
    have d10 := (hB.cell (p := ⟨g, 5, none⟩) hg).trans h10
    have d11 := (hB.cell (p := ⟨g, 6, none⟩) hg).trans h11
    have d12 := (hB.cell (p := ⟨g, 7, none⟩) hg).trans h12
    have d13 := (hB.cell (p := ⟨g, 8, none⟩) hg).trans h13
    have d14 := (hB.cell (p := ⟨g, 9, none⟩) hg).trans h14
    clear h00 h01 h02 h03 h04 h10 h11 h12 h13 h14
    rcases (by omega : i = 0 ∨ i = 1) with rfl | rfl
    · go_wp2_with (go_at_call 42; go_must (refine (H0.out.call HT.out (by repeat (with_reducible (first | exact Below.refl _ _ | assumption | apply ba | apply bd | apply bdr | (refine bs ?_ (by first | assumption | (simp; done) | (simp; omega))) | (refine bt ?_ (by assumption)))))).mono ?_); rintro e w1 ⟨rfl, hb1⟩)
      go_roundw
      case rel => exact ⟨1, rfl, by omega, by repeat (with_reducible (first | exact Below.refl _ _ | assumption | apply ba | apply bd | apply bdr | (refine bs ?_ (by first | assumption | (simp; done) | (simp; omega))) | (refine bt ?_ (by assumption))))⟩
      case measure => simp [intOf]
    · go_wp2_with (go_at_call 42; go_must (refine (H1.out.call HT.out (by repeat (with_reducible (first | exact Below.refl _ _ | assumption | apply ba | apply bd | apply bdr | (refine bs ?_ (by first | assumption | (simp; done) | (simp; omega))) | (refine bt ?_ (by assumption)))))).mono ?_); rintro e w1 ⟨rfl, hb1⟩)
      go_ret
      exact ⟨rfl, by repeat (with_reducible (first | exact Below.refl _ _ | assumption | apply ba | apply bd | apply bdr | (refine bs ?_ (by first | assumption | (simp; done) | (simp; omega))) | (refine bt ?_ (by assumption))))⟩
theorem atRight_one_no (k n c : Int) (s : ByteArray) (b : Bool) (g cap : Nat) (w : World) (hT : TT w) (hg : g < w.heap.size) (h00 : w.cell? ⟨g, 0, none⟩ = some (.int .i64 k)) (h01 : w.cell? ⟨g, 1, none⟩ = some (.int .i64 n)) (h02 : w.cell? ⟨g, 2, none⟩ = some (.int .i64 c)) (h03 : w.cell? ⟨g, 3, none⟩ = some (.string s)) (h04 : w.cell? ⟨g, 4, none⟩ = some (.bool b)) (H0 : Hid (GT 42 #[.agg #[.int .i64 k, .int .i64 n, .int .i64 c, .string s, .bool b]] (.bool false))) : Calls Tryz.prog 14 #[.slice (some ⟨g, 0, none⟩) 1 cap] w fun e w' => e = .returned (.bool false) ∧ Below w.heap.size w w' := by
  have HT := Lib.hid hT
  clear hT
  go_enter Tryz.func14, Tryz.ntmps14
  go_wp2
  go_loopw [7] (fun s7 wx => ∃ i : Nat, s7 = .int .i64 i ∧ i < 1 ∧ Below w.heap.size w wx) (fun s7 _ => 1 - (intOf s7).toNat)
  case atStart => exact ⟨0, rfl, by omega, by first | exact Below.refl _ _ | assumption⟩
  case round =>
    obtain ⟨i, rfl, hi, hB⟩ := hrel
    have d00 := (hB.cell (p := ⟨g, 0, none⟩) hg).trans h00
    have d01 := (hB.cell (p := ⟨g, 1, none⟩) hg).trans h01
    have d02 := (hB.cell (p := ⟨g, 2, none⟩) hg).trans h02
    have d03 := (hB.cell (p := ⟨g, 3, none⟩) hg).trans h03
    have d04 := (hB.cell (p := ⟨g, 4, none⟩) hg).trans h04
    clear h00 h01 h02 h03 h04
    obtain rfl : i = 0 := by omega
    · go_wp2_with (go_at_call 42; go_must (refine (H0.out.call HT.out (by repeat (with_reducible (first | exact Below.refl _ _ | assumption | apply ba | apply bd | apply bdr | (refine bs ?_ (by first | assumption | (simp; done) | (simp; omega))) | (refine bt ?_ (by assumption)))))).mono ?_); rintro e w1 ⟨rfl, hb1⟩)
      go_ret
      exact ⟨rfl, by repeat (with_reducible (first | exact Below.refl _ _ | assumption | apply ba | apply bd | apply bdr | (refine bs ?_ (by first | assumption | (simp; done) | (simp; omega))) | (refine bt ?_ (by assumption))))⟩
end Go.Proofs.YtemgabmafmehnaaGreatDoor
