/- Package cmp compares pairs and lists; what a sequence counts as. No condition beyond what the theorems state. -/
import Derived.Test.YtemgabmafmehnaaGreatDoorCmOrder
import Derived.Test.YtemgabmafmehnaaGreatDoorLwTexts
import Derived.Test.YtemgabmafmehnaaGreatDoorAtRefs
namespace Go.Proofs.YtemgabmafmehnaaGreatDoor
open Go.Shelf Go.RowKit Go.Proofs.Wide Go.Proofs.Dig
set_option maxRecDepth 100000
set_option maxHeartbeats 8000000
theorem beside_other (k n c : Int) (s : ByteArray) (b : Bool) (k2 n2 c2 : Int) (s2 : ByteArray) (b2 : Bool) (w : World) (hk : k ≠ 5) : Calls Tryz.prog 92 #[.agg #[.int .i64 k, .int .i64 n, .int .i64 c, .string s, .bool b], .agg #[.int .i64 k2, .int .i64 n2, .int .i64 c2, .string s2, .bool b2]] w fun e w' => e = .returned (.tuple #[.agg #[.int .i64 k, .int .i64 n, .int .i64 c, .string s, .bool b], .int .i64 0]) ∧ Below w.heap.size w w' := by
  have k5 : (k == 5) = false := by simpa using hk
  have k5' : (k != 5) = true := by simpa using hk
  clear hk
  go_enter Tryz.func92, Tryz.ntmps92
  go_wp2
  exact bodyPost_ret (v := .tuple #[.agg #[.int .i64 k, .int .i64 n, .int .i64 c, .string s, .bool b], .int .i64 0]) (by simp [results, Tryz.results92, go_sem, *]) rfl ⟨rfl, by repeat (with_reducible (first | exact Below.refl _ _ | assumption | apply ba | apply bd | apply bdr | (refine bs ?_ (by first | assumption | (simp; done) | (simp; omega))) | (refine bt ?_ (by assumption))))⟩
theorem beside_num (n c : Int) (s : ByteArray) (b : Bool) (k2 n2 c2 : Int) (s2 : ByteArray) (b2 : Bool) (k1 n1 c1 : Int) (s1 : ByteArray) (b1 : Bool) (e1 : Int) (w : World) (hT : TT w) (N2 : Hid (Gives 16 #[.agg #[.int .i64 k2, .int .i64 n2, .int .i64 c2, .string s2, .bool b2]] (.bool true))) (HC : Hid (GT 24 #[.agg #[.int .i64 5, .int .i64 n, .int .i64 c, .string s, .bool b], .int .i64 2] (.tuple #[.agg #[.int .i64 k1, .int .i64 n1, .int .i64 c1, .string s1, .bool b1], .int .i64 e1]))) : Calls Tryz.prog 92 #[.agg #[.int .i64 5, .int .i64 n, .int .i64 c, .string s, .bool b], .agg #[.int .i64 k2, .int .i64 n2, .int .i64 c2, .string s2, .bool b2]] w fun e w' => e = .returned (.tuple #[.agg #[.int .i64 k1, .int .i64 n1, .int .i64 c1, .string s1, .bool b1], .int .i64 e1]) ∧ Below w.heap.size w w' := by
  have HT := Lib.hid hT
  clear hT
  go_enter Tryz.func92, Tryz.ntmps92
  go_wp2_with fail
  refine (N2.out.call _).mono ?_
  rintro e w1 ⟨rfl, hb1⟩; have B1 : Below w.heap.size w w1 := (by repeat (with_reducible (first | exact Below.refl _ _ | assumption | apply ba | apply bd | apply bdr | (refine bs ?_ (by first | assumption | (simp; done) | (simp; omega))) | (refine bt ?_ (by assumption))))); have y1 := B1.size; have hc1_0 := fun o => (bcell hb1).1 (w.heap.size) o (by first | (simp; done) | assumption | (simp; omega)); have hf1_0 := fun o => (bcell hb1).2 (w.heap.size) o (by first | (simp; done) | assumption | (simp; omega)); have z1_0 : w.heap.size < w1.heap.size := zz hb1 (by first | (simp; done) | assumption | (simp; omega)); have hc1_1 := fun o => (bcell hb1).1 (w.heap.size + 1) o (by first | (simp; done) | assumption | (simp; omega)); have hf1_1 := fun o => (bcell hb1).2 (w.heap.size + 1) o (by first | (simp; done) | assumption | (simp; omega)); have z1_1 : w.heap.size + 1 < w1.heap.size := zz hb1 (by first | (simp; done) | assumption | (simp; omega)); have hc1_2 := fun o => (bcell hb1).1 (w.heap.size + 1 + 1) o (by first | (simp; done) | assumption | (simp; omega)); have hf1_2 := fun o => (bcell hb1).2 (w.heap.size + 1 + 1) o (by first | (simp; done) | assumption | (simp; omega)); have z1_2 : w.heap.size + 1 + 1 < w1.heap.size := zz hb1 (by first | (simp; done) | assumption | (simp; omega))
  go_wp2_with fail
  refine (HC.out.call HT.out (by repeat (with_reducible (first | exact Below.refl _ _ | assumption | apply ba | apply bd | apply bdr | (refine bs ?_ (by first | assumption | (simp; done) | (simp; omega))) | (refine bt ?_ (by assumption)))))).mono ?_
  rintro e w2 ⟨rfl, hb2⟩; have B2 : Below w.heap.size w w2 := (by repeat (with_reducible (first | exact Below.refl _ _ | assumption | apply ba | apply bd | apply bdr | (refine bs ?_ (by first | assumption | (simp; done) | (simp; omega))) | (refine bt ?_ (by assumption))))); have y2 := B2.size; have hc2_0 := fun o => (bcell hb2).1 (w.heap.size) o (by first | (simp; done) | assumption | (simp; omega)); have hf2_0 := fun o => (bcell hb2).2 (w.heap.size) o (by first | (simp; done) | assumption | (simp; omega)); have z2_0 : w.heap.size < w2.heap.size := zz hb2 (by first | (simp; done) | assumption | (simp; omega)); have hc2_1 := fun o => (bcell hb2).1 (w.heap.size + 1) o (by first | (simp; done) | assumption | (simp; omega)); have hf2_1 := fun o => (bcell hb2).2 (w.heap.size + 1) o (by first | (simp; done) | assumption | (simp; omega)); have z2_1 : w.heap.size + 1 < w2.heap.size := zz hb2 (by first | (simp; done) | assumption | (simp; omega)); have hc2_2 := fun o => (bcell hb2).1 (w.heap.size + 1 + 1) o (by first | (simp; done) | assumption | (simp; omega)); have hf2_2 := fun o => (bcell hb2).2 (w.heap.size + 1 + 1) o (by first | (simp; done) | assumption | (simp; omega)); have z2_2 : w.heap.size + 1 + 1 < w2.heap.size := zz hb2 (by first | (simp; done) | assumption | (simp; omega))
  go_wp2
  exact bodyPost_ret (v := .tuple #[.agg #[.int .i64 k1, .int .i64 n1, .int .i64 c1, .string s1, .bool b1], .int .i64 e1]) (by simp [results, Tryz.results92, go_sem, *]) rfl ⟨rfl, by repeat (with_reducible (first | exact Below.refl _ _ | assumption | apply ba | apply bd | apply bdr | (refine bs ?_ (by first | assumption | (simp; done) | (simp; omega))) | (refine bt ?_ (by assumption))))⟩
theorem beside_boo (n c : Int) (s : ByteArray) (b : Bool) (n2 c2 : Int) (s2 : ByteArray) (b2 : Bool) (k1 n1 c1 : Int) (s1 : ByteArray) (b1 : Bool) (e1 : Int) (w : World) (hT : TT w) (N2 : Hid (Gives 16 #[.agg #[.int .i64 4, .int .i64 n2, .int .i64 c2, .string s2, .bool b2]] (.bool false))) (HC : Hid (GT 24 #[.agg #[.int .i64 5, .int .i64 n, .int .i64 c, .string s, .bool b], .int .i64 4] (.tuple #[.agg #[.int .i64 k1, .int .i64 n1, .int .i64 c1, .string s1, .bool b1], .int .i64 e1]))) : Calls Tryz.prog 92 #[.agg #[.int .i64 5, .int .i64 n, .int .i64 c, .string s, .bool b], .agg #[.int .i64 4, .int .i64 n2, .int .i64 c2, .string s2, .bool b2]] w fun e w' => e = .returned (.tuple #[.agg #[.int .i64 k1, .int .i64 n1, .int .i64 c1, .string s1, .bool b1], .int .i64 e1]) ∧ Below w.heap.size w w' := by
  have HT := Lib.hid hT
  clear hT
  go_enter Tryz.func92, Tryz.ntmps92
  go_wp2_with fail
  refine (N2.out.call _).mono ?_
  rintro e w1 ⟨rfl, hb1⟩; have B1 : Below w.heap.size w w1 := (by repeat (with_reducible (first | exact Below.refl _ _ | assumption | apply ba | apply bd | apply bdr | (refine bs ?_ (by first | assumption | (simp; done) | (simp; omega))) | (refine bt ?_ (by assumption))))); have y1 := B1.size; have hc1_0 := fun o => (bcell hb1).1 (w.heap.size) o (by first | (simp; done) | assumption | (simp; omega)); have hf1_0 := fun o => (bcell hb1).2 (w.heap.size) o (by first | (simp; done) | assumption | (simp; omega)); have z1_0 : w.heap.size < w1.heap.size := zz hb1 (by first | (simp; done) | assumption | (simp; omega)); have hc1_1 := fun o => (bcell hb1).1 (w.heap.size + 1) o (by first | (simp; done) | assumption | (simp; omega)); have hf1_1 := fun o => (bcell hb1).2 (w.heap.size + 1) o (by first | (simp; done) | assumption | (simp; omega)); have z1_1 : w.heap.size + 1 < w1.heap.size := zz hb1 (by first | (simp; done) | assumption | (simp; omega)); have hc1_2 := fun o => (bcell hb1).1 (w.heap.size + 1 + 1) o (by first | (simp; done) | assumption | (simp; omega)); have hf1_2 := fun o => (bcell hb1).2 (w.heap.size + 1 + 1) o (by first | (simp; done) | assumption | (simp; omega)); have z1_2 : w.heap.size + 1 + 1 < w1.heap.size := zz hb1 (by first | (simp; done) | assumption | (simp; omega))
  go_wp2_with fail
  refine (HC.out.call HT.out (by repeat (with_reducible (first | exact Below.refl _ _ | assumption | apply ba | apply bd | apply bdr | (refine bs ?_ (by first | assumption | (simp; done) | (simp; omega))) | (refine bt ?_ (by assumption)))))).mono ?_
  rintro e w2 ⟨rfl, hb2⟩; have B2 : Below w.heap.size w w2 := (by repeat (with_reducible (first | exact Below.refl _ _ | assumption | apply ba | apply bd | apply bdr | (refine bs ?_ (by first | assumption | (simp; done) | (simp; omega))) | (refine bt ?_ (by assumption))))); have y2 := B2.size; have hc2_0 := fun o => (bcell hb2).1 (w.heap.size) o (by first | (simp; done) | assumption | (simp; omega)); have hf2_0 := fun o => (bcell hb2).2 (w.heap.size) o (by first | (simp; done) | assumption | (simp; omega)); have z2_0 : w.heap.size < w2.heap.size := zz hb2 (by first | (simp; done) | assumption | (simp; omega)); have hc2_1 := fun o => (bcell hb2).1 (w.heap.size + 1) o (by first | (simp; done) | assumption | (simp; omega)); have hf2_1 := fun o => (bcell hb2).2 (w.heap.size + 1) o (by first | (simp; done) | assumption | (simp; omega)); have z2_1 : w.heap.size + 1 < w2.heap.size := zz hb2 (by first | (simp; done) | assumption | (simp; omega)); have hc2_2 := fun o => (bcell hb2).1 (w.heap.size + 1 + 1) o (by first | (simp; done) | assumption | (simp; omega)); have hf2_2 := fun o => (bcell hb2).2 (w.heap.size + 1 + 1) o (by first | (simp; done) | assumption | (simp; omega)); have z2_2 : w.heap.size + 1 + 1 < w2.heap.size := zz hb2 (by first | (simp; done) | assumption | (simp; omega))
  go_wp2
  exact bodyPost_ret (v := .tuple #[.agg #[.int .i64 k1, .int .i64 n1, .int .i64 c1, .string s1, .bool b1], .int .i64 e1]) (by simp [results, Tryz.results92, go_sem, *]) rfl ⟨rfl, by repeat (with_reducible (first | exact Below.refl _ _ | assumption | apply ba | apply bd | apply bdr | (refine bs ?_ (by first | assumption | (simp; done) | (simp; omega))) | (refine bt ?_ (by assumption))))⟩
theorem beside_txt (n c : Int) (s : ByteArray) (b : Bool) (k2 n2 c2 : Int) (s2 : ByteArray) (b2 : Bool) (w : World) (N2 : Hid (Gives 16 #[.agg #[.int .i64 k2, .int .i64 n2, .int .i64 c2, .string s2, .bool b2]] (.bool false))) (hk : k2 ≠ 4) : Calls Tryz.prog 92 #[.agg #[.int .i64 5, .int .i64 n, .int .i64 c, .string s, .bool b], .agg #[.int .i64 k2, .int .i64 n2, .int .i64 c2, .string s2, .bool b2]] w fun e w' => e = .returned (.tuple #[.agg #[.int .i64 5, .int .i64 n, .int .i64 c, .string s, .bool b], .int .i64 0]) ∧ Below w.heap.size w w' := by
  have k4 : (k2 == 4) = false := by simpa using hk
  clear hk
  go_enter Tryz.func92, Tryz.ntmps92
  go_wp2_with fail
  refine (N2.out.call _).mono ?_
  rintro e w1 ⟨rfl, hb1⟩; have B1 : Below w.heap.size w w1 := (by repeat (with_reducible (first | exact Below.refl _ _ | assumption | apply ba | apply bd | apply bdr | (refine bs ?_ (by first | assumption | (simp; done) | (simp; omega))) | (refine bt ?_ (by assumption))))); have y1 := B1.size; have hc1_0 := fun o => (bcell hb1).1 (w.heap.size) o (by first | (simp; done) | assumption | (simp; omega)); have hf1_0 := fun o => (bcell hb1).2 (w.heap.size) o (by first | (simp; done) | assumption | (simp; omega)); have z1_0 : w.heap.size < w1.heap.size := zz hb1 (by first | (simp; done) | assumption | (simp; omega)); have hc1_1 := fun o => (bcell hb1).1 (w.heap.size + 1) o (by first | (simp; done) | assumption | (simp; omega)); have hf1_1 := fun o => (bcell hb1).2 (w.heap.size + 1) o (by first | (simp; done) | assumption | (simp; omega)); have z1_1 : w.heap.size + 1 < w1.heap.size := zz hb1 (by first | (simp; done) | assumption | (simp; omega)); have hc1_2 := fun o => (bcell hb1).1 (w.heap.size + 1 + 1) o (by first | (simp; done) | assumption | (simp; omega)); have hf1_2 := fun o => (bcell hb1).2 (w.heap.size + 1 + 1) o (by first | (simp; done) | assumption | (simp; omega)); have z1_2 : w.heap.size + 1 + 1 < w1.heap.size := zz hb1 (by first | (simp; done) | assumption | (simp; omega))
  go_wp2
  exact bodyPost_ret (v := .tuple #[.agg #[.int .i64 5, .int .i64 n, .int .i64 c, .string s, .bool b], .int .i64 0]) (by simp [results, Tryz.results92, go_sem, *]) rfl ⟨rfl, by repeat (with_reducible (first | exact Below.refl _ _ | assumption | apply ba | apply bd | apply bdr | (refine bs ?_ (by first | assumption | (simp; done) | (simp; omega))) | (refine bt ?_ (by assumption))))⟩
def besideZ : AV → AV → Except Int AV
  | .raw l, .int _ => castZ (.raw l) 2
  | .raw l, .dec _ _ => castZ (.raw l) 2
  | .raw l, .boo _ => castZ (.raw l) 4
  | a, _ => .ok a
theorem beside_av (a b : AV) (ha : a.ok) : Hid (GT 92 #[a.v, b.v] (outC (besideZ a b))) := gt_of fun w hT => by
  cases a with
  | int n => cases b <;> exact beside_other _ _ _ _ _ _ _ _ _ _ w (by decide)
  | dec n c => cases b <;> exact beside_other _ _ _ _ _ _ _ _ _ _ w (by decide)
  | str l => cases b <;> exact beside_other _ _ _ _ _ _ _ _ _ _ w (by decide)
  | boo x => cases b <;> exact beside_other _ _ _ _ _ _ _ _ _ _ w (by decide)
  | raw l =>
    have h2 := cast_av (.raw l) ha 2
    have h4 := cast_av (.raw l) ha 4
    cases b with
    | int m =>
      show Calls _ _ _ _ (fun e w' => e = .returned (outC (castZ (.raw l) 2)) ∧ _)
      obtain ⟨k1, n1, c1, s1, b1, x1, o⟩ := out_fields (castZ (.raw l) 2)
      rw [o] at h2 ⊢
      exact beside_num _ _ _ _ _ _ _ _ _ _ _ _ _ _ _ w hT (gives_unfold fun w => atNumeric'_1 _ _ _ _ w) h2
    | dec m d =>
      show Calls _ _ _ _ (fun e w' => e = .returned (outC (castZ (.raw l) 2)) ∧ _)
      obtain ⟨k1, n1, c1, s1, b1, x1, o⟩ := out_fields (castZ (.raw l) 2)
      rw [o] at h2 ⊢
      exact beside_num _ _ _ _ _ _ _ _ _ _ _ _ _ _ _ w hT (gives_unfold fun w => atNumeric'_2 _ _ _ _ w) h2
    | str u => exact beside_txt _ _ _ _ _ _ _ _ _ w (gives_unfold fun w => atNumeric'_3 _ _ _ _ w) (by decide)
    | boo y =>
      show Calls _ _ _ _ (fun e w' => e = .returned (outC (castZ (.raw l) 4)) ∧ _)
      obtain ⟨k1, n1, c1, s1, b1, x1, o⟩ := out_fields (castZ (.raw l) 4)
      rw [o] at h4 ⊢
      exact beside_boo _ _ _ _ _ _ _ _ _ _ _ _ _ _ w hT (gives_unfold fun w => atNumeric'_4 _ _ _ _ w) h4
    | raw u => exact beside_txt _ _ _ _ _ _ _ _ _ w (gives_unfold fun w => atNumeric'_5 _ _ _ _ w) (by decide)
theorem pair_err1 (k n c : Int) (s : ByteArray) (b : Bool) (k2 n2 c2 : Int) (s2 : ByteArray) (b2 : Bool) (k1 n1 c1 : Int) (s1 : ByteArray) (b1 : Bool) (op e1 : Int) (w : World) (hT : TT w) (H1 : Hid (GT 92 #[.agg #[.int .i64 k, .int .i64 n, .int .i64 c, .string s, .bool b], .agg #[.int .i64 k2, .int .i64 n2, .int .i64 c2, .string s2, .bool b2]] (.tuple #[.agg #[.int .i64 k1, .int .i64 n1, .int .i64 c1, .string s1, .bool b1], .int .i64 e1]))) (he : e1 ≠ 0) : Calls Tryz.prog 65 #[.int .i64 op, .agg #[.int .i64 k, .int .i64 n, .int .i64 c, .string s, .bool b], .agg #[.int .i64 k2, .int .i64 n2, .int .i64 c2, .string s2, .bool b2]] w fun e w' => e = .returned (.tuple #[.bool false, .int .i64 e1]) ∧ Below w.heap.size w w' := by
  have HT := Lib.hid hT
  clear hT
  have e0 : (e1 == 0) = false := by simpa using he
  have e2 : (e1 != 0) = true := by simpa using he
  clear he
  go_enter Tryz.func65, Tryz.ntmps65
  go_wp2_with fail
  refine (H1.out.call HT.out (by repeat (with_reducible (first | exact Below.refl _ _ | assumption | apply ba | apply bd | apply bdr | (refine bs ?_ (by first | assumption | (simp; done) | (simp; omega))) | (refine bt ?_ (by assumption)))))).mono ?_
  rintro e w1 ⟨rfl, hb1⟩; have B1 : Below w.heap.size w w1 := (by repeat (with_reducible (first | exact Below.refl _ _ | assumption | apply ba | apply bd | apply bdr | (refine bs ?_ (by first | assumption | (simp; done) | (simp; omega))) | (refine bt ?_ (by assumption))))); have y1 := B1.size; have hc1_0 := fun o => (bcell hb1).1 (w.heap.size) o (by first | (simp; done) | assumption | (simp; omega)); have hf1_0 := fun o => (bcell hb1).2 (w.heap.size) o (by first | (simp; done) | assumption | (simp; omega)); have z1_0 : w.heap.size < w1.heap.size := zz hb1 (by first | (simp; done) | assumption | (simp; omega)); have hc1_1 := fun o => (bcell hb1).1 (w.heap.size + 1) o (by first | (simp; done) | assumption | (simp; omega)); have hf1_1 := fun o => (bcell hb1).2 (w.heap.size + 1) o (by first | (simp; done) | assumption | (simp; omega)); have z1_1 : w.heap.size + 1 < w1.heap.size := zz hb1 (by first | (simp; done) | assumption | (simp; omega))
  go_wp2
  go_ret2
  exact ⟨rfl, by repeat (with_reducible (first | exact Below.refl _ _ | assumption | apply ba | apply bd | apply bdr | (refine bs ?_ (by first | assumption | (simp; done) | (simp; omega))) | (refine bt ?_ (by assumption))))⟩
theorem pair_err2 (k n c : Int) (s : ByteArray) (b : Bool) (k2 n2 c2 : Int) (s2 : ByteArray) (b2 : Bool) (k1 n1 c1 : Int) (s1 : ByteArray) (b1 : Bool) (k3 n3 c3 : Int) (s3 : ByteArray) (b3 : Bool) (op e1 : Int) (w : World) (hT : TT w) (H1 : Hid (GT 92 #[.agg #[.int .i64 k, .int .i64 n, .int .i64 c, .string s, .bool b], .agg #[.int .i64 k2, .int .i64 n2, .int .i64 c2, .string s2, .bool b2]] (.tuple #[.agg #[.int .i64 k1, .int .i64 n1, .int .i64 c1, .string s1, .bool b1], .int .i64 0]))) (H2 : Hid (GT 92 #[.agg #[.int .i64 k2, .int .i64 n2, .int .i64 c2, .string s2, .bool b2], .agg #[.int .i64 k, .int .i64 n, .int .i64 c, .string s, .bool b]] (.tuple #[.agg #[.int .i64 k3, .int .i64 n3, .int .i64 c3, .string s3, .bool b3], .int .i64 e1]))) (he : e1 ≠ 0) : Calls Tryz.prog 65 #[.int .i64 op, .agg #[.int .i64 k, .int .i64 n, .int .i64 c, .string s, .bool b], .agg #[.int .i64 k2, .int .i64 n2, .int .i64 c2, .string s2, .bool b2]] w fun e w' => e = .returned (.tuple #[.bool false, .int .i64 e1]) ∧ Below w.heap.size w w' := by
  have HT := Lib.hid hT
  clear hT
  have e0 : (e1 == 0) = false := by simpa using he
  have e2 : (e1 != 0) = true := by simpa using he
  clear he
  go_enter Tryz.func65, Tryz.ntmps65
  go_wp2_with fail
  refine (H1.out.call HT.out (by repeat (with_reducible (first | exact Below.refl _ _ | assumption | apply ba | apply bd | apply bdr | (refine bs ?_ (by first | assumption | (simp; done) | (simp; omega))) | (refine bt ?_ (by assumption)))))).mono ?_
  rintro e w1 ⟨rfl, hb1⟩; have B1 : Below w.heap.size w w1 := (by repeat (with_reducible (first | exact Below.refl _ _ | assumption | apply ba | apply bd | apply bdr | (refine bs ?_ (by first | assumption | (simp; done) | (simp; omega))) | (refine bt ?_ (by assumption))))); have y1 := B1.size; have hc1_0 := fun o => (bcell hb1).1 (w.heap.size) o (by first | (simp; done) | assumption | (simp; omega)); have hf1_0 := fun o => (bcell hb1).2 (w.heap.size) o (by first | (simp; done) | assumption | (simp; omega)); have z1_0 : w.heap.size < w1.heap.size := zz hb1 (by first | (simp; done) | assumption | (simp; omega)); have hc1_1 := fun o => (bcell hb1).1 (w.heap.size + 1) o (by first | (simp; done) | assumption | (simp; omega)); have hf1_1 := fun o => (bcell hb1).2 (w.heap.size + 1) o (by first | (simp; done) | assumption | (simp; omega)); have z1_1 : w.heap.size + 1 < w1.heap.size := zz hb1 (by first | (simp; done) | assumption | (simp; omega))
  go_wp2_with fail
  refine (H2.out.call HT.out (by repeat (with_reducible (first | exact Below.refl _ _ | assumption | apply ba | apply bd | apply bdr | (refine bs ?_ (by first | assumption | (simp; done) | (simp; omega))) | (refine bt ?_ (by assumption)))))).mono ?_
  rintro e w2 ⟨rfl, hb2⟩; have B2 : Below w.heap.size w w2 := (by repeat (with_reducible (first | exact Below.refl _ _ | assumption | apply ba | apply bd | apply bdr | (refine bs ?_ (by first | assumption | (simp; done) | (simp; omega))) | (refine bt ?_ (by assumption))))); have y2 := B2.size; have hc2_0 := fun o => (bcell hb2).1 (w.heap.size) o (by first | (simp; done) | assumption | (simp; omega)); have hf2_0 := fun o => (bcell hb2).2 (w.heap.size) o (by first | (simp; done) | assumption | (simp; omega)); have z2_0 : w.heap.size < w2.heap.size := zz hb2 (by first | (simp; done) | assumption | (simp; omega)); have hc2_1 := fun o => (bcell hb2).1 (w.heap.size + 1) o (by first | (simp; done) | assumption | (simp; omega)); have hf2_1 := fun o => (bcell hb2).2 (w.heap.size + 1) o (by first | (simp; done) | assumption | (simp; omega)); have z2_1 : w.heap.size + 1 < w2.heap.size := zz hb2 (by first | (simp; done) | assumption | (simp; omega)); have hc2_2 := fun o => (bcell hb2).1 (w1.heap.size) o (by first | (simp; done) | assumption | (simp; omega)); have hf2_2 := fun o => (bcell hb2).2 (w1.heap.size) o (by first | (simp; done) | assumption | (simp; omega)); have z2_2 : w1.heap.size < w2.heap.size := zz hb2 (by first | (simp; done) | assumption | (simp; omega))
  go_wp2
  go_ret2
  exact ⟨rfl, by repeat (with_reducible (first | exact Below.refl _ _ | assumption | apply ba | apply bd | apply bdr | (refine bs ?_ (by first | assumption | (simp; done) | (simp; omega))) | (refine bt ?_ (by assumption))))⟩
theorem pair_ok (k n c : Int) (s : ByteArray) (b : Bool) (k2 n2 c2 : Int) (s2 : ByteArray) (b2 : Bool) (k1 n1 c1 : Int) (s1 : ByteArray) (b1 : Bool) (k3 n3 c3 : Int) (s3 : ByteArray) (b3 : Bool) (op e1 : Int) (r : Bool) (w : World) (hT : TT w) (H1 : Hid (GT 92 #[.agg #[.int .i64 k, .int .i64 n, .int .i64 c, .string s, .bool b], .agg #[.int .i64 k2, .int .i64 n2, .int .i64 c2, .string s2, .bool b2]] (.tuple #[.agg #[.int .i64 k1, .int .i64 n1, .int .i64 c1, .string s1, .bool b1], .int .i64 0]))) (H2 : Hid (GT 92 #[.agg #[.int .i64 k2, .int .i64 n2, .int .i64 c2, .string s2, .bool b2], .agg #[.int .i64 k, .int .i64 n, .int .i64 c, .string s, .bool b]] (.tuple #[.agg #[.int .i64 k3, .int .i64 n3, .int .i64 c3, .string s3, .bool b3], .int .i64 0]))) (HV : Hid (Gives 32 #[.int .i64 op, .agg #[.int .i64 k1, .int .i64 n1, .int .i64 c1, .string s1, .bool b1], .agg #[.int .i64 k3, .int .i64 n3, .int .i64 c3, .string s3, .bool b3]] (.tuple #[.bool r, .int .i64 e1]))) : Calls Tryz.prog 65 #[.int .i64 op, .agg #[.int .i64 k, .int .i64 n, .int .i64 c, .string s, .bool b], .agg #[.int .i64 k2, .int .i64 n2, .int .i64 c2, .string s2, .bool b2]] w fun e w' => e = .returned (.tuple #[.bool r, .int .i64 e1]) ∧ Below w.heap.size w w' := by
  have HT := Lib.hid hT
  clear hT
  go_enter Tryz.func65, Tryz.ntmps65
  go_wp2_with fail
  refine (H1.out.call HT.out (by repeat (with_reducible (first | exact Below.refl _ _ | assumption | apply ba | apply bd | apply bdr | (refine bs ?_ (by first | assumption | (simp; done) | (simp; omega))) | (refine bt ?_ (by assumption)))))).mono ?_
  rintro e w1 ⟨rfl, hb1⟩; have B1 : Below w.heap.size w w1 := (by repeat (with_reducible (first | exact Below.refl _ _ | assumption | apply ba | apply bd | apply bdr | (refine bs ?_ (by first | assumption | (simp; done) | (simp; omega))) | (refine bt ?_ (by assumption))))); have y1 := B1.size; have hc1_0 := fun o => (bcell hb1).1 (w.heap.size) o (by first | (simp; done) | assumption | (simp; omega)); have hf1_0 := fun o => (bcell hb1).2 (w.heap.size) o (by first | (simp; done) | assumption | (simp; omega)); have z1_0 : w.heap.size < w1.heap.size := zz hb1 (by first | (simp; done) | assumption | (simp; omega)); have hc1_1 := fun o => (bcell hb1).1 (w.heap.size + 1) o (by first | (simp; done) | assumption | (simp; omega)); have hf1_1 := fun o => (bcell hb1).2 (w.heap.size + 1) o (by first | (simp; done) | assumption | (simp; omega)); have z1_1 : w.heap.size + 1 < w1.heap.size := zz hb1 (by first | (simp; done) | assumption | (simp; omega))
  go_wp2_with fail
  refine (H2.out.call HT.out (by repeat (with_reducible (first | exact Below.refl _ _ | assumption | apply ba | apply bd | apply bdr | (refine bs ?_ (by first | assumption | (simp; done) | (simp; omega))) | (refine bt ?_ (by assumption)))))).mono ?_
  rintro e w2 ⟨rfl, hb2⟩; have B2 : Below w.heap.size w w2 := (by repeat (with_reducible (first | exact Below.refl _ _ | assumption | apply ba | apply bd | apply bdr | (refine bs ?_ (by first | assumption | (simp; done) | (simp; omega))) | (refine bt ?_ (by assumption))))); have y2 := B2.size; have hc2_0 := fun o => (bcell hb2).1 (w.heap.size) o (by first | (simp; done) | assumption | (simp; omega)); have hf2_0 := fun o => (bcell hb2).2 (w.heap.size) o (by first | (simp; done) | assumption | (simp; omega)); have z2_0 : w.heap.size < w2.heap.size := zz hb2 (by first | (simp; done) | assumption | (simp; omega)); have hc2_1 := fun o => (bcell hb2).1 (w.heap.size + 1) o (by first | (simp; done) | assumption | (simp; omega)); have hf2_1 := fun o => (bcell hb2).2 (w.heap.size + 1) o (by first | (simp; done) | assumption | (simp; omega)); have z2_1 : w.heap.size + 1 < w2.heap.size := zz hb2 (by first | (simp; done) | assumption | (simp; omega)); have hc2_2 := fun o => (bcell hb2).1 (w1.heap.size) o (by first | (simp; done) | assumption | (simp; omega)); have hf2_2 := fun o => (bcell hb2).2 (w1.heap.size) o (by first | (simp; done) | assumption | (simp; omega)); have z2_2 : w1.heap.size < w2.heap.size := zz hb2 (by first | (simp; done) | assumption | (simp; omega))
  go_wp2_with fail
  refine (HV.out.call _).mono ?_
  rintro e w3 ⟨rfl, hb3⟩; have B3 : Below w.heap.size w w3 := (by repeat (with_reducible (first | exact Below.refl _ _ | assumption | apply ba | apply bd | apply bdr | (refine bs ?_ (by first | assumption | (simp; done) | (simp; omega))) | (refine bt ?_ (by assumption))))); have y3 := B3.size; have hc3_0 := fun o => (bcell hb3).1 (w.heap.size) o (by first | (simp; done) | assumption | (simp; omega)); have hf3_0 := fun o => (bcell hb3).2 (w.heap.size) o (by first | (simp; done) | assumption | (simp; omega)); have z3_0 : w.heap.size < w3.heap.size := zz hb3 (by first | (simp; done) | assumption | (simp; omega)); have hc3_1 := fun o => (bcell hb3).1 (w.heap.size + 1) o (by first | (simp; done) | assumption | (simp; omega)); have hf3_1 := fun o => (bcell hb3).2 (w.heap.size + 1) o (by first | (simp; done) | assumption | (simp; omega)); have z3_1 : w.heap.size + 1 < w3.heap.size := zz hb3 (by first | (simp; done) | assumption | (simp; omega))
  go_wp2
  go_ret2
  exact ⟨rfl, by repeat (with_reducible (first | exact Below.refl _ _ | assumption | apply ba | apply bd | apply bdr | (refine bs ?_ (by first | assumption | (simp; done) | (simp; omega))) | (refine bt ?_ (by assumption))))⟩
def pairZ (op : Int) (a b : AV) : Bool × Int := match besideZ a b with
  | .error e => (false, e)
  | .ok x => match besideZ b a with
    | .error e => (false, e)
    | .ok y => valZ op x y
end Go.Proofs.YtemgabmafmehnaaGreatDoor
namespace Go.Proofs.YtemgabmafmehnaaGreatDoor
open Go.Shelf Go.RowKit Go.Proofs.Wide Go.Proofs.Dig
set_option maxRecDepth 100000
set_option maxHeartbeats 8000000
theorem beside_err {a b : AV} {e : Int} (h : besideZ a b = .error e) : e ≠ 0 := by
  cases a with
  | raw l =>
    cases b with
    | int m => exact err_no (a := .raw l) (k := 2) h
    | dec m d => exact err_no (a := .raw l) (k := 2) h
    | boo y => exact err_no (a := .raw l) (k := 4) h
    | str u => cases h
    | raw u => cases h
  | int n => cases b <;> cases h
  | dec n c => cases b <;> cases h
  | str l => cases b <;> cases h
  | boo x => cases b <;> cases h
theorem beside_ok {a b x : AV} (ha : a.ok) (h : besideZ a b = .ok x) : x.ok := by
  cases a with
  | raw l =>
    cases b with
    | int m => exact out_ok (a := .raw l) (k := 2) ha h
    | dec m d => exact out_ok (a := .raw l) (k := 2) ha h
    | boo y => exact out_ok (a := .raw l) (k := 4) ha h
    | str u => injection h with h; subst h; exact ha
    | raw u => injection h with h; subst h; exact ha
  | int n => cases b <;> (injection h with h; subst h; exact ha)
  | dec n c => cases b <;> (injection h with h; subst h; exact ha)
  | str l => cases b <;> (injection h with h; subst h; exact ha)
  | boo x => cases b <;> (injection h with h; subst h; exact ha)
theorem pair_av (op : Int) (a b : AV) (ha : a.ok) (hb : b.ok) : Hid (GT 65 #[.int .i64 op, a.v, b.v] (outV2 (pairZ op a b))) := gt_of fun w hT => by
  have h1 := beside_av a b ha
  have h2 := beside_av b a hb
  obtain ⟨k, n, c, s, x, e⟩ := v_fields a
  obtain ⟨k2, n2, c2, s2, x2, e2⟩ := v_fields b
  unfold pairZ
  cases r1 : besideZ a b with
  | error z =>
    have hz := beside_err r1
    rw [r1] at h1
    rw [e, e2] at h1 ⊢
    exact pair_err1 k n c s x k2 n2 c2 s2 x2 0 0 0 ⟨#[]⟩ false op z w hT h1 hz
  | ok a' =>
    have ha' := beside_ok ha r1
    rw [r1] at h1
    obtain ⟨k1, n1, c1, s1, b1, e1⟩ := v_fields a'
    cases r2 : besideZ b a with
    | error z =>
      have hz := beside_err r2
      rw [r2] at h2
      show Calls _ _ _ _ (fun e w' => e = .returned (outV2 (false, z)) ∧ _)
      have o : outC (.ok a') = .tuple #[a'.v, .int .i64 0] := rfl
      rw [o, e1] at h1
      rw [e, e2] at h1 h2 ⊢
      exact pair_err2 k n c s x k2 n2 c2 s2 x2 k1 n1 c1 s1 b1 0 0 0 ⟨#[]⟩ false op z w hT h1 h2 hz
    | ok b' =>
      have hb' := beside_ok hb r2
      rw [r2] at h2
      show Calls _ _ _ _ (fun e w' => e = .returned (outV2 (valZ op a' b')) ∧ _)
      obtain ⟨k3, n3, c3, s3, b3, e3⟩ := v_fields b'
      have hv := value_av op a' b' ha' hb'
      have o : outC (.ok a') = .tuple #[a'.v, .int .i64 0] := rfl
      have o' : outC (.ok b') = .tuple #[b'.v, .int .i64 0] := rfl
      rw [o, e1] at h1
      rw [o', e3] at h2
      rw [e1, e3] at hv
      rw [e, e2] at h1 h2 ⊢
      exact pair_ok k n c s x k2 n2 c2 s2 x2 k1 n1 c1 s1 b1 k3 n3 c3 s3 b3 op _ _ w hT h1 h2 hv
def AV.fn : AV → Int
  | .int n => n
  | .dec n _ => n
  | _ => 0
def AV.fc : AV → Int
  | .dec _ c => c
  | _ => 0
def AV.fs : AV → ByteArray
  | .str l => ba' l
  | .raw l => ba' l
  | _ => ⟨#[]⟩
def AV.fb : AV → Bool
  | .boo b => b
  | _ => false
theorem v_eq (a : AV) : a.v = .agg #[.int .i64 a.kind, .int .i64 a.fn, .int .i64 a.fc, .string a.fs, .bool a.fb] := by cases a <;> rfl
/-- A row of values, from a block's first cell on. -/
def AtomsG (w : World) (g : Nat) (L : List AV) : Prop := ∀ (i : Nat) (a : AV), L[i]? = some a →
  w.cell? ⟨g, i * 5, none⟩ = some (.int .i64 a.kind) ∧ w.cell? ⟨g, i * 5 + 1, none⟩ = some (.int .i64 a.fn) ∧ w.cell? ⟨g, i * 5 + 2, none⟩ = some (.int .i64 a.fc) ∧ w.cell? ⟨g, i * 5 + 3, none⟩ = some (.string a.fs) ∧ w.cell? ⟨g, i * 5 + 4, none⟩ = some (.bool a.fb)
def rowZ (op : Int) (a : AV) : List AV → Option (Bool × Int)
  | [] => none
  | b :: ys => if (pairZ op a b).1 = true ∨ (pairZ op a b).2 ≠ 0 then some (pairZ op a b) else rowZ op a ys
def goZ (op : Int) (ys : List AV) : List AV → Bool × Int
  | [] => (false, 0)
  | a :: xs => match rowZ op a ys with
    | some r => r
    | none => goZ op ys xs
def genZ (op : Int) (xs ys : List AV) : Bool × Int := if op < 19 ∨ 24 < op then (false, 2) else goZ (op - 6) ys xs
theorem general_low (op : Int) (A B : Option Addr) (n m ca cb : Nat) (w : World) (h : op < 19) : Calls Tryz.prog 36 #[.int .i64 op, .slice A n ca, .slice B m cb] w fun e w' => e = .returned (.tuple #[.bool false, .int .i64 2]) ∧ Below w.heap.size w w' := by
  go_enter Tryz.func36, Tryz.ntmps36
  go_wp2
  go_ret2
  exact ⟨rfl, by repeat (with_reducible (first | exact Below.refl _ _ | assumption | apply ba | apply bd | apply bdr | (refine bs ?_ (by first | assumption | (simp; done) | (simp; omega))) | (refine bt ?_ (by assumption))))⟩
theorem general_high (op : Int) (A B : Option Addr) (n m ca cb : Nat) (w : World) (h : 24 < op) : Calls Tryz.prog 36 #[.int .i64 op, .slice A n ca, .slice B m cb] w fun e w' => e = .returned (.tuple #[.bool false, .int .i64 2]) ∧ Below w.heap.size w w' := by
  have g : ¬ op < 19 := by omega
  go_enter Tryz.func36, Tryz.ntmps36
  go_wp2
  go_ret2
  exact ⟨rfl, by repeat (with_reducible (first | exact Below.refl _ _ | assumption | apply ba | apply bd | apply bdr | (refine bs ?_ (by first | assumption | (simp; done) | (simp; omega))) | (refine bt ?_ (by assumption))))⟩
theorem general_core (op : Int) (A B : Option Addr) (g h n m ca cb : Nat) (xs ys : List AV) (rb : Bool) (re : Int) (w : World) (hT : TT w) (h1 : 19 ≤ op) (h2 : op ≤ 24)
    (hA : xs ≠ [] → A = some ⟨g, 0, none⟩) (hB : ys ≠ [] → B = some ⟨h, 0, none⟩) (hg : g < w.heap.size) (hh : h < w.heap.size) (hn : xs.length = n) (hm : ys.length = m) (hn6 : n ≤ 2000000) (hm6 : m ≤ 2000000)
    (ga : AtomsG w g xs) (gb : AtomsG w h ys) (oa : ∀ a ∈ xs, a.ok) (ob : ∀ b ∈ ys, b.ok) (hr : goZ (op - 6) ys xs = (rb, re)) :
    Calls Tryz.prog 36 #[.int .i64 op, .slice A n ca, .slice B m cb] w fun e w' => e = .returned (.tuple #[.bool rb, .int .i64 re]) ∧ Below w.heap.size w w' := by
  have HT := Lib.hid hT; have HA := Lib.hid hA; have HB := Lib.hid hB; have HN := Lib.hid hn; have HM := Lib.hid hm; have GA := Lib.hid ga; have GB := Lib.hid gb; have OA := Lib.hid oa; have OB := Lib.hid ob; have HR := Lib.hid hr
  have wop : IntKind.i64.wrap (op + -6) = op - 6 := by rw [IntKind.wrap_i64]; omega
  obtain ⟨q, hq⟩ : ∃ q, op - 6 = q := ⟨_, rfl⟩
  rw [hq] at HR wop
  clear hT hA hB hn hm ga gb oa ob hr hq
  have g1 : ¬ op < 19 := by omega
  have g2 : ¬ 24 < op := by omega
  clear h1 h2
  go_enter Tryz.func36, Tryz.ntmps36
  go_wp2
  go_loopw [24] (fun s24 wx => ∃ i : Nat, s24 = .int .i64 i ∧ i ≤ n ∧ Hid (goZ q ys xs = goZ q ys (xs.drop i)) ∧ Below w.heap.size w wx) (fun s24 _ => n - (intOf s24).toNat)
  case atStart => exact ⟨0, rfl, Nat.zero_le _, Lib.hid (by rw [List.drop_zero]), Below.refl _ _⟩
  case round =>
    obtain ⟨i, rfl, hi, hgo, hBW⟩ := hrel
    obtain ⟨wo, rfl⟩ : ∃ wo, wo = wr := ⟨_, rfl⟩
    by_cases hlt : i < n
    · have hia : i < xs.length := by rw [HN.out]; exact hlt
      obtain ⟨a, hae⟩ : ∃ a, xs[i]? = some a := ⟨_, List.getElem?_eq_getElem hia⟩
      have HOK := Lib.hid (OA.out a (List.mem_of_getElem? hae))
      have hne : xs ≠ [] := by intro e; rw [e] at hia; simp at hia
      obtain rfl := HA.out hne
      have hdr : xs.drop i = a :: xs.drop (i + 1) := by
        rw [List.drop_eq_getElem_cons hia]
        rw [List.getElem?_eq_getElem hia] at hae
        injection hae with hae
        rw [hae]
      obtain ⟨c0, c1, c2, c3, c4⟩ := GA.out i a hae
      have HGO := Lib.hid (hgo.out.trans (by rw [hdr]))
      have d0 := (hBW.cell (p := ⟨g, i * 5, none⟩) hg).trans c0
      have d1 := (hBW.cell (p := ⟨g, i * 5 + 1, none⟩) hg).trans c1
      have d2 := (hBW.cell (p := ⟨g, i * 5 + 2, none⟩) hg).trans c2
      have d3 := (hBW.cell (p := ⟨g, i * 5 + 3, none⟩) hg).trans c3
      have d4 := (hBW.cell (p := ⟨g, i * 5 + 4, none⟩) hg).trans c4
      have hl1 : decide ((i : Int) < (n : Int)) = true := by first | (simp; done) | (simp; omega)
      have hw0 := hBW.size
      clear c0 c1 c2 c3 c4 hae hia hne hdr hgo
      go_wp2
      go_loopw [30] (fun s30 wy => ∃ j : Nat, s30 = .int .i64 j ∧ j ≤ m ∧ Hid (rowZ q a ys = rowZ q a (ys.drop j)) ∧ Below w.heap.size w wy ∧ wo.heap.size < wy.heap.size ∧ wy.cell? ⟨wo.heap.size, 0, none⟩ = some (.int .i64 a.kind) ∧ wy.cell? ⟨wo.heap.size, 1, none⟩ = some (.int .i64 a.fn) ∧ wy.cell? ⟨wo.heap.size, 2, none⟩ = some (.int .i64 a.fc) ∧ wy.cell? ⟨wo.heap.size, 3, none⟩ = some (.string a.fs) ∧ wy.cell? ⟨wo.heap.size, 4, none⟩ = some (.bool a.fb)) (fun s30 _ => m - (intOf s30).toNat)
      case atStart => exact ⟨0, rfl, Nat.zero_le _, Lib.hid (by rw [List.drop_zero]), by repeat (with_reducible (first | exact Below.refl _ _ | assumption | apply ba | apply bd | apply bdr | (refine bs ?_ (by first | assumption | (simp; done) | (simp; omega))) | (refine bt ?_ (by assumption)))), by simp, by go_simp, by go_simp, by go_simp, by go_simp, by go_simp⟩
      case round =>
        obtain ⟨j, rfl, hj, hrow, hBy, hsz, e0, e1, e2, e3, e4⟩ := hrel
        by_cases hlt2 : j < m
        · have hjb : j < ys.length := by rw [HM.out]; exact hlt2
          obtain ⟨b, hbe⟩ : ∃ b, ys[j]? = some b := ⟨_, List.getElem?_eq_getElem hjb⟩
          have hbok := OB.out b (List.mem_of_getElem? hbe)
          have hne : ys ≠ [] := by intro e; rw [e] at hjb; simp at hjb
          obtain rfl := HB.out hne
          have hdr : ys.drop j = b :: ys.drop (j + 1) := by
            rw [List.drop_eq_getElem_cons hjb]
            rw [List.getElem?_eq_getElem hjb] at hbe
            injection hbe with hbe
            rw [hbe]
          obtain ⟨c0, c1, c2, c3, c4⟩ := GB.out j b hbe
          have f0 := (hBy.cell (p := ⟨h, j * 5, none⟩) hh).trans c0
          have f1 := (hBy.cell (p := ⟨h, j * 5 + 1, none⟩) hh).trans c1
          have f2 := (hBy.cell (p := ⟨h, j * 5 + 2, none⟩) hh).trans c2
          have f3 := (hBy.cell (p := ⟨h, j * 5 + 3, none⟩) hh).trans c3
          have f4 := (hBy.cell (p := ⟨h, j * 5 + 4, none⟩) hh).trans c4
          have hl2 : decide ((j : Int) < (m : Int)) = true := by first | (simp; done) | (simp; omega)
          have hp := pair_av q a b HOK.out hbok
          rw [v_eq a, v_eq b] at hp
          have hstep : rowZ q a ys = if (pairZ q a b).1 = true ∨ (pairZ q a b).2 ≠ 0 then some (pairZ q a b) else rowZ q a (ys.drop (j + 1)) := hrow.out.trans (by rw [hdr]; rfl)
          obtain ⟨⟨pr, pe⟩, hpe⟩ : ∃ p, pairZ q a b = p := ⟨_, rfl⟩
          rw [hpe] at hp hstep
          have HST := Lib.hid hstep
          have HP : Hid (GT 65 #[.int .i64 q, .agg #[.int .i64 a.kind, .int .i64 a.fn, .int .i64 a.fc, .string a.fs, .bool a.fb], .agg #[.int .i64 b.kind, .int .i64 b.fn, .int .i64 b.fc, .string b.fs, .bool b.fb]] (.tuple #[.bool pr, .int .i64 pe])) := hp
          have hys := hBy.size
          clear c0 c1 c2 c3 c4 hbe hbok hjb hne hdr hp hstep hpe hrow
          have fin : Hid ((pr = true ∨ pe ≠ 0) → (rb, re) = (pr, pe)) := Lib.hid fun hs => by
            have h1 : rowZ q a ys = some (pr, pe) := by rw [HST.out, if_pos hs]
            have h2 := HGO.out
            rw [HR.out] at h2
            have h3 : goZ q ys (a :: xs.drop (i + 1)) = (pr, pe) := by show (match rowZ q a ys with | some r => r | none => goZ q ys (xs.drop (i + 1))) = _; rw [h1]
            exact h2.trans h3
          cases pr with
          | true =>
            have hf := fin.out (.inl rfl)
            injection hf with hf1 hf2
            subst hf1
            subst hf2
            clear fin HST
            go_wp2_with (go_at_call 65; go_must (refine (HP.out.call HT.out (by repeat (with_reducible (first | exact Below.refl _ _ | assumption | apply ba | apply bd | apply bdr | (refine bs ?_ (by first | assumption | (simp; done) | (simp; omega))) | (refine bt ?_ (by assumption)))))).mono ?_); rintro e w1 ⟨rfl, hb1⟩; have y0 := fun o => (bcell hb1).1 wo.heap.size o (by first | (simp; done) | assumption | (simp; omega)); have y1 : wo.heap.size < w1.heap.size := zz hb1 (by first | (simp; done) | assumption | (simp; omega)))
            go_ret2
            exact ⟨rfl, by repeat (with_reducible (first | exact Below.refl _ _ | assumption | apply ba | apply bd | apply bdr | (refine bs ?_ (by first | assumption | (simp; done) | (simp; omega))) | (refine bt ?_ (by assumption))))⟩
          | false =>
            by_cases hz : pe = 0
            · subst hz
              have HN2 : Hid (rowZ q a ys = rowZ q a (ys.drop (j + 1))) := Lib.hid (by rw [HST.out, if_neg (by simp)])
              clear fin HST
              go_wp2_with (go_at_call 65; go_must (refine (HP.out.call HT.out (by repeat (with_reducible (first | exact Below.refl _ _ | assumption | apply ba | apply bd | apply bdr | (refine bs ?_ (by first | assumption | (simp; done) | (simp; omega))) | (refine bt ?_ (by assumption)))))).mono ?_); rintro e w1 ⟨rfl, hb1⟩; have y0 := fun o => (bcell hb1).1 wo.heap.size o (by first | (simp; done) | assumption | (simp; omega)); have y1 : wo.heap.size < w1.heap.size := zz hb1 (by first | (simp; done) | assumption | (simp; omega)))
              go_roundw
              case rel => exact ⟨j + 1, by go_num, by omega, HN2, by repeat (with_reducible (first | exact Below.refl _ _ | assumption | apply ba | apply bd | apply bdr | (refine bs ?_ (by first | assumption | (simp; done) | (simp; omega))) | (refine bt ?_ (by assumption)))), by first | assumption | (simp; omega), by go_simp, by go_simp, by go_simp, by go_simp, by go_simp⟩
              case measure => simp [intOf]; omega
            · have hf := fin.out (.inr hz)
              injection hf with hf1 hf2
              subst hf1
              have hz1 : (re == 0) = false := by rw [hf2]; simpa using hz
              have hz2 : (re != 0) = true := by rw [hf2]; simpa using hz
              subst hf2
              clear fin HST hz
              go_wp2_with (go_at_call 65; go_must (refine (HP.out.call HT.out (by repeat (with_reducible (first | exact Below.refl _ _ | assumption | apply ba | apply bd | apply bdr | (refine bs ?_ (by first | assumption | (simp; done) | (simp; omega))) | (refine bt ?_ (by assumption)))))).mono ?_); rintro e w1 ⟨rfl, hb1⟩; have y0 := fun o => (bcell hb1).1 wo.heap.size o (by first | (simp; done) | assumption | (simp; omega)); have y1 : wo.heap.size < w1.heap.size := zz hb1 (by first | (simp; done) | assumption | (simp; omega)))
              go_ret2
              exact ⟨rfl, by repeat (with_reducible (first | exact Below.refl _ _ | assumption | apply ba | apply bd | apply bdr | (refine bs ?_ (by first | assumption | (simp; done) | (simp; omega))) | (refine bt ?_ (by assumption))))⟩
        · obtain rfl : j = m := by omega
          have hl2 : decide (((j : Nat) : Int) < ((j : Nat) : Int)) = false := by simp
          have HN3 : Hid (goZ q ys xs = goZ q ys (xs.drop (i + 1))) := Lib.hid (by
            have h1 : rowZ q a ys = none := by rw [hrow.out, List.drop_eq_nil_of_le (by rw [HM.out]; exact Nat.le_refl _)]; rfl
            refine HGO.out.trans ?_
            show (match rowZ q a ys with | some r => r | none => goZ q ys (xs.drop (i + 1))) = _
            rw [h1])
          clear hrow
          go_wp2
          go_roundw
          case rel => exact ⟨i + 1, by go_num, by omega, HN3, by repeat (with_reducible (first | exact Below.refl _ _ | assumption | apply ba | apply bd | apply bdr | (refine bs ?_ (by first | assumption | (simp; done) | (simp; omega))) | (refine bt ?_ (by assumption))))⟩
          case measure => simp [intOf]; omega
    · obtain rfl : i = n := by omega
      have hl1 : decide (((i : Nat) : Int) < ((i : Nat) : Int)) = false := by simp
      have hf : (rb, re) = (false, 0) := by
        rw [← HR.out, hgo.out, List.drop_eq_nil_of_le (by rw [HN.out]; exact Nat.le_refl _)]; rfl
      injection hf with hf1 hf2
      subst hf1
      subst hf2
      clear hgo
      go_wp2
      go_ret2
      exact ⟨rfl, by repeat (with_reducible (first | exact Below.refl _ _ | assumption | apply ba | apply bd | apply bdr | (refine bs ?_ (by first | assumption | (simp; done) | (simp; omega))) | (refine bt ?_ (by assumption))))⟩
end Go.Proofs.YtemgabmafmehnaaGreatDoor
namespace Go.Proofs.YtemgabmafmehnaaGreatDoor
open Go.Shelf Go.RowKit Go.Proofs.Wide Go.Proofs.Dig
set_option maxRecDepth 100000
set_option maxHeartbeats 8000000
theorem counts_3_empty (n c : Int) (b : Bool) (w : World) : Calls Tryz.prog 67 #[.agg #[.int .i64 3, .int .i64 n, .int .i64 c, .string ⟨#[]⟩, .bool b]] w fun e w' => e = .returned (.bool false) ∧ Below w.heap.size w w' := by
  go_enter Tryz.func67, Tryz.ntmps67
  go_wp2_with (first
    | (go_at_call 16; go_must (refine (atNumeric'_3 n c ⟨#[]⟩ b _).mono ?_); rintro e w1 ⟨rfl, hb1⟩; have B1 : Below w.heap.size w w1 := (by repeat (with_reducible (first | exact Below.refl _ _ | assumption | apply ba | apply bd | apply bdr | (refine bs ?_ (by first | assumption | (simp; done) | (simp; omega))) | (refine bt ?_ (by assumption))))); have y1 := B1.size; have hc1_0 := fun o => (bcell hb1).1 (w.heap.size) o (by first | (simp; done) | assumption | (simp; omega)); have hf1_0 := fun o => (bcell hb1).2 (w.heap.size) o (by first | (simp; done) | assumption | (simp; omega)); have z1_0 : w.heap.size < w1.heap.size := zz hb1 (by first | (simp; done) | assumption | (simp; omega))))
  go_ret
  exact ⟨rfl, by repeat (with_reducible (first | exact Below.refl _ _ | assumption | apply ba | apply bd | apply bdr | (refine bs ?_ (by first | assumption | (simp; done) | (simp; omega))) | (refine bt ?_ (by assumption))))⟩
theorem counts_3_more (n c : Int) (l : List UInt8) (b : Bool) (w : World) (hx : l ≠ []) : Calls Tryz.prog 67 #[.agg #[.int .i64 3, .int .i64 n, .int .i64 c, .string (ba' l), .bool b]] w fun e w' => e = .returned (.bool true) ∧ Below w.heap.size w w' := by
  have l0 := emp_beq hx
  have l1 := emp_bne hx
  have l2 : ((ba' l).toList == (⟨#[]⟩ : ByteArray).toList) = false := by rw [← beq_toListBytes]; exact l0
  have l3 : ((ba' l).toList != (⟨#[]⟩ : ByteArray).toList) = true := by unfold bne; rw [l2]; rfl
  have l4 : (ba' l).toList.isEmpty = false := by rw [toList_ba]; cases l with | nil => exact absurd rfl hx | cons a l => rfl
  have l5 : (!(ba' l).toList.isEmpty) = true := by rw [l4]; rfl
  clear hx
  go_enter Tryz.func67, Tryz.ntmps67
  go_wp2_with (first
    | (go_at_call 16; go_must (refine (atNumeric'_3 n c (ba' l) b _).mono ?_); rintro e w1 ⟨rfl, hb1⟩; have B1 : Below w.heap.size w w1 := (by repeat (with_reducible (first | exact Below.refl _ _ | assumption | apply ba | apply bd | apply bdr | (refine bs ?_ (by first | assumption | (simp; done) | (simp; omega))) | (refine bt ?_ (by assumption))))); have y1 := B1.size; have hc1_0 := fun o => (bcell hb1).1 (w.heap.size) o (by first | (simp; done) | assumption | (simp; omega)); have hf1_0 := fun o => (bcell hb1).2 (w.heap.size) o (by first | (simp; done) | assumption | (simp; omega)); have z1_0 : w.heap.size < w1.heap.size := zz hb1 (by first | (simp; done) | assumption | (simp; omega))))
  go_ret
  exact ⟨rfl, by repeat (with_reducible (first | exact Below.refl _ _ | assumption | apply ba | apply bd | apply bdr | (refine bs ?_ (by first | assumption | (simp; done) | (simp; omega))) | (refine bt ?_ (by assumption))))⟩
theorem counts_5_empty (n c : Int) (b : Bool) (w : World) : Calls Tryz.prog 67 #[.agg #[.int .i64 5, .int .i64 n, .int .i64 c, .string ⟨#[]⟩, .bool b]] w fun e w' => e = .returned (.bool false) ∧ Below w.heap.size w w' := by
  go_enter Tryz.func67, Tryz.ntmps67
  go_wp2_with (first
    | (go_at_call 16; go_must (refine (atNumeric'_5 n c ⟨#[]⟩ b _).mono ?_); rintro e w1 ⟨rfl, hb1⟩; have B1 : Below w.heap.size w w1 := (by repeat (with_reducible (first | exact Below.refl _ _ | assumption | apply ba | apply bd | apply bdr | (refine bs ?_ (by first | assumption | (simp; done) | (simp; omega))) | (refine bt ?_ (by assumption))))); have y1 := B1.size; have hc1_0 := fun o => (bcell hb1).1 (w.heap.size) o (by first | (simp; done) | assumption | (simp; omega)); have hf1_0 := fun o => (bcell hb1).2 (w.heap.size) o (by first | (simp; done) | assumption | (simp; omega)); have z1_0 : w.heap.size < w1.heap.size := zz hb1 (by first | (simp; done) | assumption | (simp; omega))))
  go_ret
  exact ⟨rfl, by repeat (with_reducible (first | exact Below.refl _ _ | assumption | apply ba | apply bd | apply bdr | (refine bs ?_ (by first | assumption | (simp; done) | (simp; omega))) | (refine bt ?_ (by assumption))))⟩
theorem counts_5_more (n c : Int) (l : List UInt8) (b : Bool) (w : World) (hx : l ≠ []) : Calls Tryz.prog 67 #[.agg #[.int .i64 5, .int .i64 n, .int .i64 c, .string (ba' l), .bool b]] w fun e w' => e = .returned (.bool true) ∧ Below w.heap.size w w' := by
  have l0 := emp_beq hx
  have l1 := emp_bne hx
  have l2 : ((ba' l).toList == (⟨#[]⟩ : ByteArray).toList) = false := by rw [← beq_toListBytes]; exact l0
  have l3 : ((ba' l).toList != (⟨#[]⟩ : ByteArray).toList) = true := by unfold bne; rw [l2]; rfl
  have l4 : (ba' l).toList.isEmpty = false := by rw [toList_ba]; cases l with | nil => exact absurd rfl hx | cons a l => rfl
  have l5 : (!(ba' l).toList.isEmpty) = true := by rw [l4]; rfl
  clear hx
  go_enter Tryz.func67, Tryz.ntmps67
  go_wp2_with (first
    | (go_at_call 16; go_must (refine (atNumeric'_5 n c (ba' l) b _).mono ?_); rintro e w1 ⟨rfl, hb1⟩; have B1 : Below w.heap.size w w1 := (by repeat (with_reducible (first | exact Below.refl _ _ | assumption | apply ba | apply bd | apply bdr | (refine bs ?_ (by first | assumption | (simp; done) | (simp; omega))) | (refine bt ?_ (by assumption))))); have y1 := B1.size; have hc1_0 := fun o => (bcell hb1).1 (w.heap.size) o (by first | (simp; done) | assumption | (simp; omega)); have hf1_0 := fun o => (bcell hb1).2 (w.heap.size) o (by first | (simp; done) | assumption | (simp; omega)); have z1_0 : w.heap.size < w1.heap.size := zz hb1 (by first | (simp; done) | assumption | (simp; omega))))
  go_ret
  exact ⟨rfl, by repeat (with_reducible (first | exact Below.refl _ _ | assumption | apply ba | apply bd | apply bdr | (refine bs ?_ (by first | assumption | (simp; done) | (simp; omega))) | (refine bt ?_ (by assumption))))⟩
theorem counts_4 (n c : Int) (s : ByteArray) (b : Bool) (w : World) : Calls Tryz.prog 67 #[.agg #[.int .i64 4, .int .i64 n, .int .i64 c, .string s, .bool b]] w fun e w' => e = .returned (.bool b) ∧ Below w.heap.size w w' := by
  go_enter Tryz.func67, Tryz.ntmps67
  go_wp2
  go_ret
  exact ⟨rfl, by repeat (with_reducible (first | exact Below.refl _ _ | assumption | apply ba | apply bd | apply bdr | (refine bs ?_ (by first | assumption | (simp; done) | (simp; omega))) | (refine bt ?_ (by assumption))))⟩
theorem counts_1 (n c : Int) (s : ByteArray) (b : Bool) (w : World) : Calls Tryz.prog 67 #[.agg #[.int .i64 1, .int .i64 n, .int .i64 c, .string s, .bool b]] w fun e w' => e = .returned (.bool (n != 0)) ∧ Below w.heap.size w w' := by
  go_enter Tryz.func67, Tryz.ntmps67
  go_wp2_with (first
    | (go_at_call 16; go_must (refine (atNumeric'_1 n c s b _).mono ?_); rintro e w1 ⟨rfl, hb1⟩; have B1 : Below w.heap.size w w1 := (by repeat (with_reducible (first | exact Below.refl _ _ | assumption | apply ba | apply bd | apply bdr | (refine bs ?_ (by first | assumption | (simp; done) | (simp; omega))) | (refine bt ?_ (by assumption))))); have y1 := B1.size; have hc1_0 := fun o => (bcell hb1).1 (w.heap.size) o (by first | (simp; done) | assumption | (simp; omega)); have hf1_0 := fun o => (bcell hb1).2 (w.heap.size) o (by first | (simp; done) | assumption | (simp; omega)); have z1_0 : w.heap.size < w1.heap.size := zz hb1 (by first | (simp; done) | assumption | (simp; omega))))
  go_ret
  exact ⟨by first | rfl | exact ret_bool (by simp), by repeat (with_reducible (first | exact Below.refl _ _ | assumption | apply ba | apply bd | apply bdr | (refine bs ?_ (by first | assumption | (simp; done) | (simp; omega))) | (refine bt ?_ (by assumption))))⟩
theorem counts_2 (n c : Int) (s : ByteArray) (b : Bool) (w : World) : Calls Tryz.prog 67 #[.agg #[.int .i64 2, .int .i64 n, .int .i64 c, .string s, .bool b]] w fun e w' => e = .returned (.bool (n != 0)) ∧ Below w.heap.size w w' := by
  go_enter Tryz.func67, Tryz.ntmps67
  go_wp2_with (first
    | (go_at_call 16; go_must (refine (atNumeric'_2 n c s b _).mono ?_); rintro e w1 ⟨rfl, hb1⟩; have B1 : Below w.heap.size w w1 := (by repeat (with_reducible (first | exact Below.refl _ _ | assumption | apply ba | apply bd | apply bdr | (refine bs ?_ (by first | assumption | (simp; done) | (simp; omega))) | (refine bt ?_ (by assumption))))); have y1 := B1.size; have hc1_0 := fun o => (bcell hb1).1 (w.heap.size) o (by first | (simp; done) | assumption | (simp; omega)); have hf1_0 := fun o => (bcell hb1).2 (w.heap.size) o (by first | (simp; done) | assumption | (simp; omega)); have z1_0 : w.heap.size < w1.heap.size := zz hb1 (by first | (simp; done) | assumption | (simp; omega))))
  go_ret
  exact ⟨by first | rfl | exact ret_bool (by simp), by repeat (with_reducible (first | exact Below.refl _ _ | assumption | apply ba | apply bd | apply bdr | (refine bs ?_ (by first | assumption | (simp; done) | (simp; omega))) | (refine bt ?_ (by assumption))))⟩
def countsZ : AV → Bool
  | .int n => n != 0
  | .dec n _ => n != 0
  | .str l => !l.isEmpty
  | .boo b => b
  | .raw l => !l.isEmpty
theorem counts_av (a : AV) : Hid (Gives 67 #[a.v] (.bool (countsZ a))) := gives_unfold fun w => by
  cases a with
  | int n => exact counts_1 n 0 ⟨#[]⟩ false w
  | dec n c => exact counts_2 n c ⟨#[]⟩ false w
  | str l =>
    cases l with
    | nil => exact counts_3_empty 0 0 false w
    | cons x l => exact counts_3_more 0 0 (x :: l) false w (by simp)
  | boo b => exact counts_4 0 0 ⟨#[]⟩ b w
  | raw l =>
    cases l with
    | nil => exact counts_5_empty 0 0 false w
    | cons x l => exact counts_5_more 0 0 (x :: l) false w (by simp)
theorem truth_first (A : Option Addr) (n c : Nat) (w : World) : Calls Tryz.prog 38 #[.bool true, .slice A n c] w fun e w' => e = .returned (.tuple #[.bool true, .int .i64 0]) ∧ Below w.heap.size w w' := by
  go_enter Tryz.func38, Tryz.ntmps38
  go_wp2
  go_ret2
  exact ⟨rfl, by repeat (with_reducible (first | exact Below.refl _ _ | assumption | apply ba | apply bd | apply bdr | (refine bs ?_ (by first | assumption | (simp; done) | (simp; omega))) | (refine bt ?_ (by assumption))))⟩
theorem truth_none (A : Option Addr) (c : Nat) (w : World) : Calls Tryz.prog 38 #[.bool false, .slice A 0 c] w fun e w' => e = .returned (.tuple #[.bool false, .int .i64 0]) ∧ Below w.heap.size w w' := by
  go_enter Tryz.func38, Tryz.ntmps38
  go_wp2
  go_ret2
  exact ⟨rfl, by repeat (with_reducible (first | exact Below.refl _ _ | assumption | apply ba | apply bd | apply bdr | (refine bs ?_ (by first | assumption | (simp; done) | (simp; omega))) | (refine bt ?_ (by assumption))))⟩
theorem truth_many (A : Option Addr) (n c : Nat) (w : World) (hn : 1 < n) : Calls Tryz.prog 38 #[.bool false, .slice A n c] w fun e w' => e = .returned (.tuple #[.bool false, .int .i64 51]) ∧ Below w.heap.size w w' := by
  have h0 : ((n : Int) == 0) = false := by rw [beq_eq_false_iff_ne]; omega
  have h1 : (n == 0) = false := by rw [beq_eq_false_iff_ne]; omega
  have h2 : decide ((1 : Int) < (n : Int)) = true := by simp; omega
  have h3 : (1 : Int) < (n : Int) := by omega
  have hn0 : ¬ n = 0 := by omega
  clear hn
  go_enter Tryz.func38, Tryz.ntmps38
  go_wp2
  go_ret2
  exact ⟨rfl, by repeat (with_reducible (first | exact Below.refl _ _ | assumption | apply ba | apply bd | apply bdr | (refine bs ?_ (by first | assumption | (simp; done) | (simp; omega))) | (refine bt ?_ (by assumption))))⟩
theorem truth_one (a : AV) (g c : Nat) (w : World) (h0 : w.cell? ⟨g, 0, none⟩ = some (.int .i64 a.kind)) (h1 : w.cell? ⟨g, 1, none⟩ = some (.int .i64 a.fn)) (h2 : w.cell? ⟨g, 2, none⟩ = some (.int .i64 a.fc)) (h3 : w.cell? ⟨g, 3, none⟩ = some (.string a.fs)) (h4 : w.cell? ⟨g, 4, none⟩ = some (.bool a.fb)) : Calls Tryz.prog 38 #[.bool false, .slice (some ⟨g, 0, none⟩) 1 c] w fun e w' => e = .returned (.tuple #[.bool (countsZ a), .int .i64 0]) ∧ Below w.heap.size w w' := by
  have hc := counts_av a
  rw [v_eq a] at hc
  obtain ⟨r, hr⟩ : ∃ r, countsZ a = r := ⟨_, rfl⟩
  rw [hr] at hc ⊢
  clear hr
  have HC := hc
  clear hc
  go_enter Tryz.func38, Tryz.ntmps38
  go_wp2_with fail
  refine (HC.out.call _).mono ?_
  rintro e w1 ⟨rfl, hb1⟩; have B1 : Below w.heap.size w w1 := (by repeat (with_reducible (first | exact Below.refl _ _ | assumption | apply ba | apply bd | apply bdr | (refine bs ?_ (by first | assumption | (simp; done) | (simp; omega))) | (refine bt ?_ (by assumption))))); have y1 := B1.size
  go_wp2
  go_ret2
  exact ⟨rfl, by repeat (with_reducible (first | exact Below.refl _ _ | assumption | apply ba | apply bd | apply bdr | (refine bs ?_ (by first | assumption | (simp; done) | (simp; omega))) | (refine bt ?_ (by assumption))))⟩
theorem of4_any (n : Int) (w : World) : Calls Tryz.prog 57 #[.int .i64 n] w fun e w' => e = .returned (.agg #[.int .i64 1, .int .i64 n, .int .i64 0, .string ⟨#[]⟩, .bool false]) ∧ Below w.heap.size w w' := by
  go_enter Tryz.func57, Tryz.ntmps57
  go_wp2
  exact bodyPost_ret (v := .agg #[.int .i64 1, .int .i64 n, .int .i64 0, .string ⟨#[]⟩, .bool false]) (by simp [results, Tryz.results57, go_sem, *]) rfl ⟨rfl, by repeat (with_reducible (first | exact Below.refl _ _ | assumption | apply ba | apply bd | apply bdr | (refine bs ?_ (by first | assumption | (simp; done) | (simp; omega))) | (refine bt ?_ (by assumption))))⟩
theorem raw4_any (s : ByteArray) (w : World) : Calls Tryz.prog 58 #[.string s] w fun e w' => e = .returned (.agg #[.int .i64 5, .int .i64 0, .int .i64 0, .string s, .bool false]) ∧ Below w.heap.size w w' := by
  go_enter Tryz.func58, Tryz.ntmps58
  go_wp2
  exact bodyPost_ret (v := .agg #[.int .i64 5, .int .i64 0, .int .i64 0, .string s, .bool false]) (by simp [results, Tryz.results58, go_sem, *]) rfl ⟨rfl, by repeat (with_reducible (first | exact Below.refl _ _ | assumption | apply ba | apply bd | apply bdr | (refine bs ?_ (by first | assumption | (simp; done) | (simp; omega))) | (refine bt ?_ (by assumption))))⟩
theorem atoms_one {w : World} {g : Nat} {a : AV} (h00 : w.cell? ⟨g, 0, none⟩ = some (.int .i64 a.kind)) (h01 : w.cell? ⟨g, 1, none⟩ = some (.int .i64 a.fn)) (h02 : w.cell? ⟨g, 2, none⟩ = some (.int .i64 a.fc)) (h03 : w.cell? ⟨g, 3, none⟩ = some (.string a.fs)) (h04 : w.cell? ⟨g, 4, none⟩ = some (.bool a.fb)) : AtomsG w g [a] := by
  intro i x hx
  cases i with
  | zero => simp at hx; subst hx; exact ⟨h00, h01, h02, h03, h04⟩
  | succ i => simp at hx
theorem atoms_two {w : World} {g : Nat} {a b : AV} (h00 : w.cell? ⟨g, 0, none⟩ = some (.int .i64 a.kind)) (h01 : w.cell? ⟨g, 1, none⟩ = some (.int .i64 a.fn)) (h02 : w.cell? ⟨g, 2, none⟩ = some (.int .i64 a.fc)) (h03 : w.cell? ⟨g, 3, none⟩ = some (.string a.fs)) (h04 : w.cell? ⟨g, 4, none⟩ = some (.bool a.fb)) (h10 : w.cell? ⟨g, 5, none⟩ = some (.int .i64 b.kind)) (h11 : w.cell? ⟨g, 6, none⟩ = some (.int .i64 b.fn)) (h12 : w.cell? ⟨g, 7, none⟩ = some (.int .i64 b.fc)) (h13 : w.cell? ⟨g, 8, none⟩ = some (.string b.fs)) (h14 : w.cell? ⟨g, 9, none⟩ = some (.bool b.fb)) : AtomsG w g [a, b] := by
  intro i x hx
  cases i with
  | zero => simp at hx; subst hx; exact ⟨h00, h01, h02, h03, h04⟩
  | succ i =>
    cases i with
    | zero => simp at hx; subst hx; exact ⟨h10, h11, h12, h13, h14⟩
    | succ i => simp at hx
theorem ex_gen1 : goZ (19 - 6) [.raw [50]] [.int 1, .int 2] = (true, 0) := by decide +kernel
theorem ex_gen2 : goZ (19 - 6) [.raw [120], .int 1] [.int 1] = (false, 50) := by decide +kernel
theorem ex_val : valZ 15 (.int 1) (.dec 15 1) = (true, 0) := by decide +kernel
theorem okr50 : (AV.raw [50]).ok := ⟨by decide +kernel, by decide⟩
theorem okr120 : (AV.raw [120]).ok := ⟨by decide +kernel, by decide⟩
theorem ok15 : (AV.dec 15 1).ok := ⟨by decide, by decide, by decide, .inr (by decide)⟩
theorem oki1 : (AV.int 1).ok := ⟨by decide, by decide, by decide, .inl rfl⟩
theorem oki2 : (AV.int 2).ok := ⟨by decide, by decide, by decide, .inl rfl⟩
end Go.Proofs.YtemgabmafmehnaaGreatDoor
