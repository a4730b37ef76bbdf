/- The examples of the document for atomic values hold. No condition beyond what the theorems state. -/
import Derived.Test.YtemgabmafmehnaaGreatDoorAtWrites
import Derived.Deep.RegionHeld3
import Derived.BigQuiet
namespace Go.Proofs.YtemgabmafmehnaaGreatDoor
open Go.Shelf Go.RowKit Go.Proofs.Wide Go.Proofs.Dig
set_option maxRecDepth 100000
set_option maxHeartbeats 4000000
theorem read7 : readZ [55] = .ok (7, 0) := by
  have e : parseZ [55] = (7, 0, 0) := by decide +kernel
  unfold readZ; rw [e]; rfl
theorem ex_cast1 : castZ (.raw [32, 55, 32]) 1 = .ok (.int 7) := by
  have e : trimB [32, 55, 32] = [55] := by decide +kernel
  show toIntZ (.raw [32, 55, 32]) = _
  simp only [toIntZ, e, read7]
  rfl
theorem ex_cast2 : castZ (.raw [55, 46, 48]) 1 = .error 50 := by
  show toIntZ (.raw [55, 46, 48]) = _
  simp only [toIntZ]
  rfl
theorem ex_cast3 : castZ (.dec (-25) 1) 1 = .ok (.int (-2)) := rfl
theorem ok7 : (AV.raw [32, 55, 32]).ok := ⟨by decide +kernel, by decide⟩
theorem ok70 : (AV.raw [55, 46, 48]).ok := ⟨by decide +kernel, by decide⟩
theorem ok25 : (AV.dec (-25) 1).ok := ⟨by decide, by decide, by decide, .inr (by decide)⟩
theorem awake3_any (w : World) (hT : TT w) : Calls Tryz.prog 12 #[] w fun e w' => e = .returned (.bool true) ∧ Below w.heap.size w w' := by
  have HT := Lib.hid hT
  clear hT
  have H1 : Hid (GT 18 #[.string ⟨#[32, 55, 32]⟩] (.agg #[.int .i64 5, .int .i64 0, .int .i64 0, .string ⟨#[32, 55, 32]⟩, .bool false])) := gt_of fun w _ => atRaw_any [32, 55, 32] w
  have H2 : Hid (GT 18 #[.string ⟨#[55, 46, 48]⟩] (.agg #[.int .i64 5, .int .i64 0, .int .i64 0, .string ⟨#[55, 46, 48]⟩, .bool false])) := gt_of fun w _ => atRaw_any [55, 46, 48] w
  have C1 : Hid (GT 24 #[.agg #[.int .i64 5, .int .i64 0, .int .i64 0, .string ⟨#[32, 55, 32]⟩, .bool false], .int .i64 1] (.tuple #[.agg #[.int .i64 1, .int .i64 7, .int .i64 0, .string ⟨#[]⟩, .bool false], .int .i64 0])) := by
    have h := cast_av (.raw [32, 55, 32]) ok7 1
    rw [ex_cast1] at h
    exact h
  have C2 : Hid (GT 24 #[.agg #[.int .i64 5, .int .i64 0, .int .i64 0, .string ⟨#[55, 46, 48]⟩, .bool false], .int .i64 1] (.tuple #[.agg #[.int .i64 0, .int .i64 0, .int .i64 0, .string ⟨#[]⟩, .bool false], .int .i64 50])) := by
    have h := cast_av (.raw [55, 46, 48]) ok70 1
    rw [ex_cast2] at h
    exact h
  have C3 : Hid (GT 24 #[.agg #[.int .i64 2, .int .i64 (-25), .int .i64 1, .string ⟨#[]⟩, .bool false], .int .i64 1] (.tuple #[.agg #[.int .i64 1, .int .i64 (-2), .int .i64 0, .string ⟨#[]⟩, .bool false], .int .i64 0])) := by
    have h := cast_av (.dec (-25) 1) ok25 1
    rw [ex_cast3] at h
    exact h
  have S1 : Hid (GT 21 #[.agg #[.int .i64 4, .int .i64 0, .int .i64 0, .string ⟨#[]⟩, .bool true]] (.string ⟨#[116, 114, 117, 101]⟩)) := gt_of fun w _ => string_true w
  go_enter Tryz.func12, Tryz.ntmps12
  go_wp2_with fail
  refine (H1.out.call HT.out (by repeat (with_reducible (first | exact Below.refl _ _ | assumption | apply ba | apply bd | apply bdr | (refine bs ?_ (by first | assumption | (simp; done) | (simp; omega))) | (refine bt ?_ (by assumption)))))).mono ?_
  rintro e w1 ⟨rfl, hb1⟩; have B1 : Below w.heap.size w w1 := (by repeat (with_reducible (first | exact Below.refl _ _ | assumption | apply ba | apply bd | apply bdr | (refine bs ?_ (by first | assumption | (simp; done) | (simp; omega))) | (refine bt ?_ (by assumption))))); have y1 := B1.size
  go_wp2_with fail
  refine (C1.out.call HT.out (by repeat (with_reducible (first | exact Below.refl _ _ | assumption | apply ba | apply bd | apply bdr | (refine bs ?_ (by first | assumption | (simp; done) | (simp; omega))) | (refine bt ?_ (by assumption)))))).mono ?_
  rintro e w2 ⟨rfl, hb2⟩; have B2 : Below w.heap.size w w2 := (by repeat (with_reducible (first | exact Below.refl _ _ | assumption | apply ba | apply bd | apply bdr | (refine bs ?_ (by first | assumption | (simp; done) | (simp; omega))) | (refine bt ?_ (by assumption))))); have y2 := B2.size
  go_wp2_with fail
  refine (H2.out.call HT.out (by repeat (with_reducible (first | exact Below.refl _ _ | assumption | apply ba | apply bd | apply bdr | (refine bs ?_ (by first | assumption | (simp; done) | (simp; omega))) | (refine bt ?_ (by assumption)))))).mono ?_
  rintro e w3 ⟨rfl, hb3⟩; have B3 : Below w.heap.size w w3 := (by repeat (with_reducible (first | exact Below.refl _ _ | assumption | apply ba | apply bd | apply bdr | (refine bs ?_ (by first | assumption | (simp; done) | (simp; omega))) | (refine bt ?_ (by assumption))))); have y3 := B3.size; have hc3_0 := fun o => (bcell hb3).1 (w2.heap.size) o (by first | (simp; done) | assumption | (simp; omega)); have hf3_0 := fun o => (bcell hb3).2 (w2.heap.size) o (by first | (simp; done) | assumption | (simp; omega)); have z3_0 : w2.heap.size < w3.heap.size := zz hb3 (by first | (simp; done) | assumption | (simp; omega))
  go_wp2_with fail
  refine (C2.out.call HT.out (by repeat (with_reducible (first | exact Below.refl _ _ | assumption | apply ba | apply bd | apply bdr | (refine bs ?_ (by first | assumption | (simp; done) | (simp; omega))) | (refine bt ?_ (by assumption)))))).mono ?_
  rintro e w4 ⟨rfl, hb4⟩; have B4 : Below w.heap.size w w4 := (by repeat (with_reducible (first | exact Below.refl _ _ | assumption | apply ba | apply bd | apply bdr | (refine bs ?_ (by first | assumption | (simp; done) | (simp; omega))) | (refine bt ?_ (by assumption))))); have y4 := B4.size; have hc4_0 := fun o => (bcell hb4).1 (w2.heap.size) o (by first | (simp; done) | assumption | (simp; omega)); have hf4_0 := fun o => (bcell hb4).2 (w2.heap.size) o (by first | (simp; done) | assumption | (simp; omega)); have z4_0 : w2.heap.size < w4.heap.size := zz hb4 (by first | (simp; done) | assumption | (simp; omega))
  go_wp2_with fail
  refine (atNumber_any (-25) 1 _).mono ?_
  rintro e w5 ⟨rfl, hb5⟩; have B5 : Below w.heap.size w w5 := (by repeat (with_reducible (first | exact Below.refl _ _ | assumption | apply ba | apply bd | apply bdr | (refine bs ?_ (by first | assumption | (simp; done) | (simp; omega))) | (refine bt ?_ (by assumption))))); have y5 := B5.size; have hc5_0 := fun o => (bcell hb5).1 (w2.heap.size) o (by first | (simp; done) | assumption | (simp; omega)); have hf5_0 := fun o => (bcell hb5).2 (w2.heap.size) o (by first | (simp; done) | assumption | (simp; omega)); have z5_0 : w2.heap.size < w5.heap.size := zz hb5 (by first | (simp; done) | assumption | (simp; omega)); have hc5_1 := fun o => (bcell hb5).1 (w4.heap.size) o (by first | (simp; done) | assumption | (simp; omega)); have hf5_1 := fun o => (bcell hb5).2 (w4.heap.size) o (by first | (simp; done) | assumption | (simp; omega)); have z5_1 : w4.heap.size < w5.heap.size := zz hb5 (by first | (simp; done) | assumption | (simp; omega))
  go_wp2_with fail
  refine (C3.out.call HT.out (by repeat (with_reducible (first | exact Below.refl _ _ | assumption | apply ba | apply bd | apply bdr | (refine bs ?_ (by first | assumption | (simp; done) | (simp; omega))) | (refine bt ?_ (by assumption)))))).mono ?_
  rintro e w6 ⟨rfl, hb6⟩; have B6 : Below w.heap.size w w6 := (by repeat (with_reducible (first | exact Below.refl _ _ | assumption | apply ba | apply bd | apply bdr | (refine bs ?_ (by first | assumption | (simp; done) | (simp; omega))) | (refine bt ?_ (by assumption))))); have y6 := B6.size; have hc6_0 := fun o => (bcell hb6).1 (w2.heap.size) o (by first | (simp; done) | assumption | (simp; omega)); have hf6_0 := fun o => (bcell hb6).2 (w2.heap.size) o (by first | (simp; done) | assumption | (simp; omega)); have z6_0 : w2.heap.size < w6.heap.size := zz hb6 (by first | (simp; done) | assumption | (simp; omega)); have hc6_1 := fun o => (bcell hb6).1 (w4.heap.size) o (by first | (simp; done) | assumption | (simp; omega)); have hf6_1 := fun o => (bcell hb6).2 (w4.heap.size) o (by first | (simp; done) | assumption | (simp; omega)); have z6_1 : w4.heap.size < w6.heap.size := zz hb6 (by first | (simp; done) | assumption | (simp; omega))
  go_upto_region 4 with fail
  go_region_held3 (fun w' => w'.cell? ⟨w2.heap.size, 0, none⟩ = some (.int .i64 1) ∧ w'.cell? ⟨w2.heap.size, 1, none⟩ = some (.int .i64 7) ∧ w'.cell? ⟨w2.heap.size, 2, none⟩ = some (.int .i64 0) ∧ w'.cell? ⟨w2.heap.size, 3, none⟩ = some (.string ⟨#[]⟩) ∧ w'.cell? ⟨w2.heap.size, 4, none⟩ = some (.bool false) ∧ w'.cell? ⟨w6.heap.size, 0, none⟩ = some (.int .i64 1) ∧ w'.cell? ⟨w6.heap.size, 1, none⟩ = some (.int .i64 (-2)) ∧ w'.cell? ⟨w6.heap.size, 2, none⟩ = some (.int .i64 0) ∧ w'.cell? ⟨w6.heap.size, 3, none⟩ = some (.string ⟨#[]⟩) ∧ w'.cell? ⟨w6.heap.size, 4, none⟩ = some (.bool false) ∧ w2.heap.size < w'.heap.size ∧ w6.heap.size < w'.heap.size ∧ Below w.heap.size w w')
    (first | (go_keep; done) | ((repeat' apply And.intro) <;> first | assumption | (go_keep; done) | (refine Nat.lt_of_lt_of_le (by assumption) ?_; simp; done) | exact zz (by assumption) (by simp) | exact zz (by assumption) (by assumption) | repeat (with_reducible (first | exact Below.refl _ _ | assumption | apply ba | apply bd | apply bdr | (refine bs ?_ (by first | assumption | (simp; done) | (simp; omega))) | (refine bt ?_ (by assumption))))))
    (first
      | (go_at_call 15; refine (atOf_any _ _).mono ?_; rintro e w7 ⟨rfl, hb7⟩; have B7 : Below w.heap.size w w7 := (by repeat (with_reducible (first | exact Below.refl _ _ | assumption | apply ba | apply bd | apply bdr | (refine bs ?_ (by first | assumption | (simp; done) | (simp; omega))) | (refine bt ?_ (by assumption))))); have y7 := B7.size; have hc7_0 := fun o => (bcell hb7).1 (w2.heap.size) o (by first | (simp; done) | assumption | (simp; omega)); have hf7_0 := fun o => (bcell hb7).2 (w2.heap.size) o (by first | (simp; done) | assumption | (simp; omega)); have z7_0 : w2.heap.size < w7.heap.size := zz hb7 (by first | (simp; done) | assumption | (simp; omega)); have hc7_1 := fun o => (bcell hb7).1 (w6.heap.size) o (by first | (simp; done) | assumption | (simp; omega)); have hf7_1 := fun o => (bcell hb7).2 (w6.heap.size) o (by first | (simp; done) | assumption | (simp; omega)); have z7_1 : w6.heap.size < w7.heap.size := zz hb7 (by first | (simp; done) | assumption | (simp; omega)))
      | (go_at_call 19; refine (atTruth_any _ _).mono ?_; rintro e w8 ⟨rfl, hb8⟩; have B8 : Below w.heap.size w w8 := (by repeat (with_reducible (first | exact Below.refl _ _ | assumption | apply ba | apply bd | apply bdr | (refine bs ?_ (by first | assumption | (simp; done) | (simp; omega))) | (refine bt ?_ (by assumption))))); have y8 := B8.size; have hc8_0 := fun o => (bcell hb8).1 (w2.heap.size) o (by first | (simp; done) | assumption | (simp; omega)); have hf8_0 := fun o => (bcell hb8).2 (w2.heap.size) o (by first | (simp; done) | assumption | (simp; omega)); have z8_0 : w2.heap.size < w8.heap.size := zz hb8 (by first | (simp; done) | assumption | (simp; omega)); have hc8_1 := fun o => (bcell hb8).1 (w6.heap.size) o (by first | (simp; done) | assumption | (simp; omega)); have hf8_1 := fun o => (bcell hb8).2 (w6.heap.size) o (by first | (simp; done) | assumption | (simp; omega)); have z8_1 : w6.heap.size < w8.heap.size := zz hb8 (by first | (simp; done) | assumption | (simp; omega)))
      | (go_at_call 21; refine (S1.out.call HT.out (by repeat (with_reducible (first | exact Below.refl _ _ | assumption | apply ba | apply bd | apply bdr | (refine bs ?_ (by first | assumption | (simp; done) | (simp; omega))) | (refine bt ?_ (by assumption)))))).mono ?_; rintro e w9 ⟨rfl, hb9⟩; have B9 : Below w.heap.size w w9 := (by repeat (with_reducible (first | exact Below.refl _ _ | assumption | apply ba | apply bd | apply bdr | (refine bs ?_ (by first | assumption | (simp; done) | (simp; omega))) | (refine bt ?_ (by assumption))))); have y9 := B9.size; have hc9_0 := fun o => (bcell hb9).1 (w2.heap.size) o (by first | (simp; done) | assumption | (simp; omega)); have hf9_0 := fun o => (bcell hb9).2 (w2.heap.size) o (by first | (simp; done) | assumption | (simp; omega)); have z9_0 : w2.heap.size < w9.heap.size := zz hb9 (by first | (simp; done) | assumption | (simp; omega)); have hc9_1 := fun o => (bcell hb9).1 (w6.heap.size) o (by first | (simp; done) | assumption | (simp; omega)); have hf9_1 := fun o => (bcell hb9).2 (w6.heap.size) o (by first | (simp; done) | assumption | (simp; omega)); have z9_1 : w6.heap.size < w9.heap.size := zz hb9 (by first | (simp; done) | assumption | (simp; omega))))
  go_wp2
  go_ret
  exact ⟨rfl, by repeat (with_reducible (first | exact Below.refl _ _ | assumption | apply ba | apply bd | apply bdr | (refine bs ?_ (by first | assumption | (simp; done) | (simp; omega))) | (refine bt ?_ (by assumption))))⟩
end Go.Proofs.YtemgabmafmehnaaGreatDoor
