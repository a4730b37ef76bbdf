/- The statement AtomBack. No condition beyond what the theorems state. -/
import Derived.Test.YtemgabmafmehnaaGreatDoorAtWrites
import Derived.Test.YtemgabmafmehnaaGreatDoorLwWake
import Derived.Test.YtemgabmafmehnaaGreatDoorAtRefs
namespace Go.Proofs.YtemgabmafmehnaaGreatDoor
open Go.Shelf Go.RowKit Go.Proofs.Wide Go.Proofs.Dig
set_option maxRecDepth 100000
set_option maxHeartbeats 4000000
theorem right_of {n k : Int} (h : rightB (n, k) = true) : ∃ j : Nat, k = (j : Int) ∧ RightZ n j := by
  unfold rightB at h
  simp only [decide_eq_true_eq] at h
  obtain ⟨a, b, c, d, e⟩ := h
  exact ⟨k.toNat, by omega, a, b, by omega, by omega⟩
/-- A value is one of the five forms and right, or the reference refuses it. -/
theorem refR_cases (k n c : Int) (l : List UInt8) (b : Bool) (hn : InI n) (hc : InI c) (hl : l.length ≤ 1048576) :
    (∃ a : AV, a.ok ∧ .agg #[.int .i64 k, .int .i64 n, .int .i64 c, .string (ba' l), .bool b] = a.v ∧ Hid (Gives 13 #[a.v] (.bool true))) ∨ Hid (Gives 13 #[.agg #[.int .i64 k, .int .i64 n, .int .i64 c, .string (ba' l), .bool b]] (.bool false)) := by
  by_cases hle : l = []
  · subst hle
    by_cases k1 : k = 1
    · subst k1
      by_cases c0 : c = 0
      · subst c0
        cases b with
        | true => exact .inr (gives_unfold fun w => refR_int_b n [] w)
        | false =>
          cases hr : rightB (n, 0) with
          | true =>
            obtain ⟨j, hj, hz⟩ := right_of hr
            have j0 : j = 0 := by have : (j : Int) = 0 := by simpa using hj.symm
                                  omega
            subst j0
            exact .inl ⟨.int n, hz, rfl, gives_unfold fun w => refR_int n true w (numRef_gt n 0 hn hc _ hr)⟩
          | false => exact .inr (gives_unfold fun w => refR_int n false w (numRef_gt n 0 hn hc _ hr))
      · exact .inr (gives_unfold fun w => refR_int_c n c [] b w c0)
    by_cases k2 : k = 2
    · subst k2
      cases b with
      | true => exact .inr (gives_unfold fun w => refR_dec_b n c [] w)
      | false =>
        cases hr : rightB (n, c) with
        | true =>
          obtain ⟨j, hj, hz⟩ := right_of hr
          have hj' : c = (j : Int) := hj
          subst hj'
          exact .inl ⟨.dec n j, hz, rfl, gives_unfold fun w => refR_dec n j true w (numRef_gt n j hn hc _ hr)⟩
        | false => exact .inr (gives_unfold fun w => refR_dec n c false w (numRef_gt n c hn hc _ hr))
    by_cases k3 : k = 3
    · subst k3
      by_cases n0 : n = 0
      · subst n0
        by_cases c0 : c = 0
        · subst c0
          cases b with
          | true => exact .inr (gives_unfold fun w => refR_str_b [] w)
          | false => exact .inl ⟨.str [], ⟨rfl, by decide⟩, rfl, gives_unfold fun w => refR_str [] true w (validRef_gt [] (by decide) _ rfl)⟩
        · exact .inr (gives_unfold fun w => refR_str_c c [] b w c0)
      · exact .inr (gives_unfold fun w => refR_str_n n c [] b w n0)
    by_cases k5 : k = 5
    · subst k5
      by_cases n0 : n = 0
      · subst n0
        by_cases c0 : c = 0
        · subst c0
          cases b with
          | true => exact .inr (gives_unfold fun w => refR_raw_b [] w)
          | false => exact .inl ⟨.raw [], ⟨rfl, by decide⟩, rfl, gives_unfold fun w => refR_raw [] true w (validRef_gt [] (by decide) _ rfl)⟩
        · exact .inr (gives_unfold fun w => refR_raw_c c [] b w c0)
      · exact .inr (gives_unfold fun w => refR_raw_n n c [] b w n0)
    by_cases k4 : k = 4
    · subst k4
      by_cases n0 : n = 0
      · subst n0
        by_cases c0 : c = 0
        · subst c0
          exact .inl ⟨.boo b, trivial, rfl, gives_unfold fun w => refR_boo b w⟩
        · exact .inr (gives_unfold fun w => refR_boo_c c [] b w c0)
      · exact .inr (gives_unfold fun w => refR_boo_n n c [] b w n0)
    have hk : k ≠ 1 ∧ k ≠ 2 ∧ k ≠ 3 ∧ k ≠ 4 ∧ k ≠ 5 := ⟨k1, k2, k3, k4, k5⟩
    by_cases n0 : n = 0
    · subst n0
      by_cases c0 : c = 0
      · subst c0
        cases b with
        | true => exact .inr (gives_unfold fun w => refR_no_b k [] w hk)
        | false => exact .inr (gives_unfold fun w => refR_no k w hk)
      · exact .inr (gives_unfold fun w => refR_no_c k c [] b w hk c0)
    · exact .inr (gives_unfold fun w => refR_no_n k n c [] b w hk n0)
  · by_cases k1 : k = 1
    · subst k1
      by_cases c0 : c = 0
      · subst c0
        cases b with
        | true => exact .inr (gives_unfold fun w => refR_int_b n l w)
        | false => exact .inr (gives_unfold fun w => refR_int_l n l w hle)
      · exact .inr (gives_unfold fun w => refR_int_c n c l b w c0)
    by_cases k2 : k = 2
    · subst k2
      cases b with
      | true => exact .inr (gives_unfold fun w => refR_dec_b n c l w)
      | false => exact .inr (gives_unfold fun w => refR_dec_l n c l w hle)
    by_cases k3 : k = 3
    · subst k3
      by_cases n0 : n = 0
      · subst n0
        by_cases c0 : c = 0
        · subst c0
          cases b with
          | true => exact .inr (gives_unfold fun w => refR_str_b l w)
          | false =>
            cases hv : validX l with
            | true => exact .inl ⟨.str l, ⟨hv, hl⟩, rfl, gives_unfold fun w => refR_str l true w (validRef_gt l hl _ hv)⟩
            | false => exact .inr (gives_unfold fun w => refR_str l false w (validRef_gt l hl _ hv))
        · exact .inr (gives_unfold fun w => refR_str_c c l b w c0)
      · exact .inr (gives_unfold fun w => refR_str_n n c l b w n0)
    by_cases k5 : k = 5
    · subst k5
      by_cases n0 : n = 0
      · subst n0
        by_cases c0 : c = 0
        · subst c0
          cases b with
          | true => exact .inr (gives_unfold fun w => refR_raw_b l w)
          | false =>
            cases hv : validX l with
            | true => exact .inl ⟨.raw l, ⟨hv, hl⟩, rfl, gives_unfold fun w => refR_raw l true w (validRef_gt l hl _ hv)⟩
            | false => exact .inr (gives_unfold fun w => refR_raw l false w (validRef_gt l hl _ hv))
        · exact .inr (gives_unfold fun w => refR_raw_c c l b w c0)
      · exact .inr (gives_unfold fun w => refR_raw_n n c l b w n0)
    by_cases k4 : k = 4
    · subst k4
      by_cases n0 : n = 0
      · subst n0
        by_cases c0 : c = 0
        · subst c0
          exact .inr (gives_unfold fun w => refR_boo_l l b w hle)
        · exact .inr (gives_unfold fun w => refR_boo_c c l b w c0)
      · exact .inr (gives_unfold fun w => refR_boo_n n c l b w n0)
    have hk : k ≠ 1 ∧ k ≠ 2 ∧ k ≠ 3 ∧ k ≠ 4 ∧ k ≠ 5 := ⟨k1, k2, k3, k4, k5⟩
    by_cases n0 : n = 0
    · subst n0
      by_cases c0 : c = 0
      · subst c0
        cases b with
        | true => exact .inr (gives_unfold fun w => refR_no_b k l w hk)
        | false => exact .inr (gives_unfold fun w => refR_no_l k l w hk hle)
      · exact .inr (gives_unfold fun w => refR_no_c k c l b w hk c0)
    · exact .inr (gives_unfold fun w => refR_no_n k n c l b w hk n0)
theorem wake3 : Hid (GT 12 #[] (.bool true)) := gt_of fun w hT => awake3_any w hT
theorem back_no (k n c : Int) (s : ByteArray) (b : Bool) (w : World) (hT : TT w) (HR : Hid (Gives 13 #[.agg #[.int .i64 k, .int .i64 n, .int .i64 c, .string s, .bool b]] (.bool false))) : Calls Tryz.prog 5 #[.agg #[.int .i64 k, .int .i64 n, .int .i64 c, .string s, .bool b]] w fun e w' => e = .returned (.bool true) ∧ Below w.heap.size w w' := by
  have HT := Lib.hid hT
  clear hT
  have WK := wake3
  go_enter Tryz.func5, Tryz.ntmps5
  go_wp2_with fail
  refine (WK.out.call HT.out (by repeat (with_reducible (first | exact Below.refl _ _ | assumption | apply ba | apply bd | apply bdr | (refine bs ?_ (by first | assumption | (simp; done) | (simp; omega))) | (refine bt ?_ (by assumption)))))).mono ?_
  rintro e w1 ⟨rfl, hb1⟩; have B1 : Below w.heap.size w w1 := (by repeat (with_reducible (first | exact Below.refl _ _ | assumption | apply ba | apply bd | apply bdr | (refine bs ?_ (by first | assumption | (simp; done) | (simp; omega))) | (refine bt ?_ (by assumption))))); have y1 := B1.size; have hc1_0 := fun o => (bcell hb1).1 (w.heap.size) o (by first | (simp; done) | assumption | (simp; omega)); have hf1_0 := fun o => (bcell hb1).2 (w.heap.size) o (by first | (simp; done) | assumption | (simp; omega)); have z1_0 : w.heap.size < w1.heap.size := zz hb1 (by first | (simp; done) | assumption | (simp; omega))
  go_wp2_with fail
  refine (HR.out.call _).mono ?_
  rintro e w2 ⟨rfl, hb2⟩; have B2 : Below w.heap.size w w2 := (by repeat (with_reducible (first | exact Below.refl _ _ | assumption | apply ba | apply bd | apply bdr | (refine bs ?_ (by first | assumption | (simp; done) | (simp; omega))) | (refine bt ?_ (by assumption))))); have y2 := B2.size; have hc2_0 := fun o => (bcell hb2).1 (w.heap.size) o (by first | (simp; done) | assumption | (simp; omega)); have hf2_0 := fun o => (bcell hb2).2 (w.heap.size) o (by first | (simp; done) | assumption | (simp; omega)); have z2_0 : w.heap.size < w2.heap.size := zz hb2 (by first | (simp; done) | assumption | (simp; omega))
  go_wp2_with fail
  refine (WK.out.call HT.out (by repeat (with_reducible (first | exact Below.refl _ _ | assumption | apply ba | apply bd | apply bdr | (refine bs ?_ (by first | assumption | (simp; done) | (simp; omega))) | (refine bt ?_ (by assumption)))))).mono ?_
  rintro e w3 ⟨rfl, hb3⟩; have B3 : Below w.heap.size w w3 := (by repeat (with_reducible (first | exact Below.refl _ _ | assumption | apply ba | apply bd | apply bdr | (refine bs ?_ (by first | assumption | (simp; done) | (simp; omega))) | (refine bt ?_ (by assumption))))); have y3 := B3.size; have hc3_0 := fun o => (bcell hb3).1 (w.heap.size) o (by first | (simp; done) | assumption | (simp; omega)); have hf3_0 := fun o => (bcell hb3).2 (w.heap.size) o (by first | (simp; done) | assumption | (simp; omega)); have z3_0 : w.heap.size < w3.heap.size := zz hb3 (by first | (simp; done) | assumption | (simp; omega))
  go_wp2
  go_ret
  exact ⟨rfl, by repeat (with_reducible (first | exact Below.refl _ _ | assumption | apply ba | apply bd | apply bdr | (refine bs ?_ (by first | assumption | (simp; done) | (simp; omega))) | (refine bt ?_ (by assumption))))⟩
theorem back_core (k n c : Int) (s : ByteArray) (b : Bool) (u : List UInt8) (w : World) (hT : TT w) (HR : Hid (Gives 13 #[.agg #[.int .i64 k, .int .i64 n, .int .i64 c, .string s, .bool b]] (.bool true))) (C3 : Hid (GT 24 #[.agg #[.int .i64 k, .int .i64 n, .int .i64 c, .string s, .bool b], .int .i64 3] (.tuple #[.agg #[.int .i64 3, .int .i64 0, .int .i64 0, .string (ba' u), .bool false], .int .i64 0]))) (C5 : Hid (GT 24 #[.agg #[.int .i64 k, .int .i64 n, .int .i64 c, .string s, .bool b], .int .i64 5] (.tuple #[.agg #[.int .i64 5, .int .i64 0, .int .i64 0, .string (ba' u), .bool false], .int .i64 0]))) (CO : Hid (GT 24 #[.agg #[.int .i64 k, .int .i64 n, .int .i64 c, .string s, .bool b], .int .i64 k] (.tuple #[.agg #[.int .i64 k, .int .i64 n, .int .i64 c, .string s, .bool b], .int .i64 0]))) (CS : Hid (GT 24 #[.agg #[.int .i64 3, .int .i64 0, .int .i64 0, .string (ba' u), .bool false], .int .i64 k] (.tuple #[.agg #[.int .i64 k, .int .i64 n, .int .i64 c, .string s, .bool b], .int .i64 0]))) (CR : Hid (GT 24 #[.agg #[.int .i64 5, .int .i64 0, .int .i64 0, .string (ba' u), .bool false], .int .i64 k] (.tuple #[.agg #[.int .i64 k, .int .i64 n, .int .i64 c, .string s, .bool b], .int .i64 0]))) : Calls Tryz.prog 5 #[.agg #[.int .i64 k, .int .i64 n, .int .i64 c, .string s, .bool b]] w fun e w' => e = .returned (.bool true) ∧ Below w.heap.size w w' := by
  have HT := Lib.hid hT
  clear hT
  have WK := wake3
  go_enter Tryz.func5, Tryz.ntmps5
  go_wp2_with fail
  refine (WK.out.call HT.out (by repeat (with_reducible (first | exact Below.refl _ _ | assumption | apply ba | apply bd | apply bdr | (refine bs ?_ (by first | assumption | (simp; done) | (simp; omega))) | (refine bt ?_ (by assumption)))))).mono ?_
  rintro e w1 ⟨rfl, hb1⟩; have B1 : Below w.heap.size w w1 := (by repeat (with_reducible (first | exact Below.refl _ _ | assumption | apply ba | apply bd | apply bdr | (refine bs ?_ (by first | assumption | (simp; done) | (simp; omega))) | (refine bt ?_ (by assumption))))); have y1 := B1.size; have hc1_0 := fun o => (bcell hb1).1 (w.heap.size) o (by first | (simp; done) | assumption | (simp; omega)); have hf1_0 := fun o => (bcell hb1).2 (w.heap.size) o (by first | (simp; done) | assumption | (simp; omega)); have z1_0 : w.heap.size < w1.heap.size := zz hb1 (by first | (simp; done) | assumption | (simp; omega))
  go_wp2_with fail
  refine (HR.out.call _).mono ?_
  rintro e w2 ⟨rfl, hb2⟩; have B2 : Below w.heap.size w w2 := (by repeat (with_reducible (first | exact Below.refl _ _ | assumption | apply ba | apply bd | apply bdr | (refine bs ?_ (by first | assumption | (simp; done) | (simp; omega))) | (refine bt ?_ (by assumption))))); have y2 := B2.size; have hc2_0 := fun o => (bcell hb2).1 (w.heap.size) o (by first | (simp; done) | assumption | (simp; omega)); have hf2_0 := fun o => (bcell hb2).2 (w.heap.size) o (by first | (simp; done) | assumption | (simp; omega)); have z2_0 : w.heap.size < w2.heap.size := zz hb2 (by first | (simp; done) | assumption | (simp; omega))
  go_wp2_with fail
  refine (C3.out.call HT.out (by repeat (with_reducible (first | exact Below.refl _ _ | assumption | apply ba | apply bd | apply bdr | (refine bs ?_ (by first | assumption | (simp; done) | (simp; omega))) | (refine bt ?_ (by assumption)))))).mono ?_
  rintro e w3 ⟨rfl, hb3⟩; have B3 : Below w.heap.size w w3 := (by repeat (with_reducible (first | exact Below.refl _ _ | assumption | apply ba | apply bd | apply bdr | (refine bs ?_ (by first | assumption | (simp; done) | (simp; omega))) | (refine bt ?_ (by assumption))))); have y3 := B3.size; have hc3_0 := fun o => (bcell hb3).1 (w.heap.size) o (by first | (simp; done) | assumption | (simp; omega)); have hf3_0 := fun o => (bcell hb3).2 (w.heap.size) o (by first | (simp; done) | assumption | (simp; omega)); have z3_0 : w.heap.size < w3.heap.size := zz hb3 (by first | (simp; done) | assumption | (simp; omega))
  go_wp2_with fail
  refine (C5.out.call HT.out (by repeat (with_reducible (first | exact Below.refl _ _ | assumption | apply ba | apply bd | apply bdr | (refine bs ?_ (by first | assumption | (simp; done) | (simp; omega))) | (refine bt ?_ (by assumption)))))).mono ?_
  rintro e w4 ⟨rfl, hb4⟩; have B4 : Below w.heap.size w w4 := (by repeat (with_reducible (first | exact Below.refl _ _ | assumption | apply ba | apply bd | apply bdr | (refine bs ?_ (by first | assumption | (simp; done) | (simp; omega))) | (refine bt ?_ (by assumption))))); have y4 := B4.size; have hc4_0 := fun o => (bcell hb4).1 (w.heap.size) o (by first | (simp; done) | assumption | (simp; omega)); have hf4_0 := fun o => (bcell hb4).2 (w.heap.size) o (by first | (simp; done) | assumption | (simp; omega)); have z4_0 : w.heap.size < w4.heap.size := zz hb4 (by first | (simp; done) | assumption | (simp; omega)); have hc4_1 := fun o => (bcell hb4).1 (w3.heap.size) o (by first | (simp; done) | assumption | (simp; omega)); have hf4_1 := fun o => (bcell hb4).2 (w3.heap.size) o (by first | (simp; done) | assumption | (simp; omega)); have z4_1 : w3.heap.size < w4.heap.size := zz hb4 (by first | (simp; done) | assumption | (simp; omega))
  go_wp2_with fail
  refine (CO.out.call HT.out (by repeat (with_reducible (first | exact Below.refl _ _ | assumption | apply ba | apply bd | apply bdr | (refine bs ?_ (by first | assumption | (simp; done) | (simp; omega))) | (refine bt ?_ (by assumption)))))).mono ?_
  rintro e w5 ⟨rfl, hb5⟩; have B5 : Below w.heap.size w w5 := (by repeat (with_reducible (first | exact Below.refl _ _ | assumption | apply ba | apply bd | apply bdr | (refine bs ?_ (by first | assumption | (simp; done) | (simp; omega))) | (refine bt ?_ (by assumption))))); have y5 := B5.size; have hc5_0 := fun o => (bcell hb5).1 (w.heap.size) o (by first | (simp; done) | assumption | (simp; omega)); have hf5_0 := fun o => (bcell hb5).2 (w.heap.size) o (by first | (simp; done) | assumption | (simp; omega)); have z5_0 : w.heap.size < w5.heap.size := zz hb5 (by first | (simp; done) | assumption | (simp; omega)); have hc5_1 := fun o => (bcell hb5).1 (w3.heap.size) o (by first | (simp; done) | assumption | (simp; omega)); have hf5_1 := fun o => (bcell hb5).2 (w3.heap.size) o (by first | (simp; done) | assumption | (simp; omega)); have z5_1 : w3.heap.size < w5.heap.size := zz hb5 (by first | (simp; done) | assumption | (simp; omega)); have hc5_2 := fun o => (bcell hb5).1 (w4.heap.size) o (by first | (simp; done) | assumption | (simp; omega)); have hf5_2 := fun o => (bcell hb5).2 (w4.heap.size) o (by first | (simp; done) | assumption | (simp; omega)); have z5_2 : w4.heap.size < w5.heap.size := zz hb5 (by first | (simp; done) | assumption | (simp; omega))
  go_wp2_with fail
  refine (CS.out.call HT.out (by repeat (with_reducible (first | exact Below.refl _ _ | assumption | apply ba | apply bd | apply bdr | (refine bs ?_ (by first | assumption | (simp; done) | (simp; omega))) | (refine bt ?_ (by assumption)))))).mono ?_
  rintro e w6 ⟨rfl, hb6⟩; have B6 : Below w.heap.size w w6 := (by repeat (with_reducible (first | exact Below.refl _ _ | assumption | apply ba | apply bd | apply bdr | (refine bs ?_ (by first | assumption | (simp; done) | (simp; omega))) | (refine bt ?_ (by assumption))))); have y6 := B6.size; have hc6_0 := fun o => (bcell hb6).1 (w.heap.size) o (by first | (simp; done) | assumption | (simp; omega)); have hf6_0 := fun o => (bcell hb6).2 (w.heap.size) o (by first | (simp; done) | assumption | (simp; omega)); have z6_0 : w.heap.size < w6.heap.size := zz hb6 (by first | (simp; done) | assumption | (simp; omega)); have hc6_1 := fun o => (bcell hb6).1 (w3.heap.size) o (by first | (simp; done) | assumption | (simp; omega)); have hf6_1 := fun o => (bcell hb6).2 (w3.heap.size) o (by first | (simp; done) | assumption | (simp; omega)); have z6_1 : w3.heap.size < w6.heap.size := zz hb6 (by first | (simp; done) | assumption | (simp; omega)); have hc6_2 := fun o => (bcell hb6).1 (w4.heap.size) o (by first | (simp; done) | assumption | (simp; omega)); have hf6_2 := fun o => (bcell hb6).2 (w4.heap.size) o (by first | (simp; done) | assumption | (simp; omega)); have z6_2 : w4.heap.size < w6.heap.size := zz hb6 (by first | (simp; done) | assumption | (simp; omega)); have hc6_3 := fun o => (bcell hb6).1 (w5.heap.size) o (by first | (simp; done) | assumption | (simp; omega)); have hf6_3 := fun o => (bcell hb6).2 (w5.heap.size) o (by first | (simp; done) | assumption | (simp; omega)); have z6_3 : w5.heap.size < w6.heap.size := zz hb6 (by first | (simp; done) | assumption | (simp; omega))
  go_wp2_with fail
  refine (CR.out.call HT.out (by repeat (with_reducible (first | exact Below.refl _ _ | assumption | apply ba | apply bd | apply bdr | (refine bs ?_ (by first | assumption | (simp; done) | (simp; omega))) | (refine bt ?_ (by assumption)))))).mono ?_
  rintro e w7 ⟨rfl, hb7⟩; have B7 : Below w.heap.size w w7 := (by repeat (with_reducible (first | exact Below.refl _ _ | assumption | apply ba | apply bd | apply bdr | (refine bs ?_ (by first | assumption | (simp; done) | (simp; omega))) | (refine bt ?_ (by assumption))))); have y7 := B7.size; have hc7_0 := fun o => (bcell hb7).1 (w.heap.size) o (by first | (simp; done) | assumption | (simp; omega)); have hf7_0 := fun o => (bcell hb7).2 (w.heap.size) o (by first | (simp; done) | assumption | (simp; omega)); have z7_0 : w.heap.size < w7.heap.size := zz hb7 (by first | (simp; done) | assumption | (simp; omega)); have hc7_1 := fun o => (bcell hb7).1 (w3.heap.size) o (by first | (simp; done) | assumption | (simp; omega)); have hf7_1 := fun o => (bcell hb7).2 (w3.heap.size) o (by first | (simp; done) | assumption | (simp; omega)); have z7_1 : w3.heap.size < w7.heap.size := zz hb7 (by first | (simp; done) | assumption | (simp; omega)); have hc7_2 := fun o => (bcell hb7).1 (w4.heap.size) o (by first | (simp; done) | assumption | (simp; omega)); have hf7_2 := fun o => (bcell hb7).2 (w4.heap.size) o (by first | (simp; done) | assumption | (simp; omega)); have z7_2 : w4.heap.size < w7.heap.size := zz hb7 (by first | (simp; done) | assumption | (simp; omega)); have hc7_3 := fun o => (bcell hb7).1 (w5.heap.size) o (by first | (simp; done) | assumption | (simp; omega)); have hf7_3 := fun o => (bcell hb7).2 (w5.heap.size) o (by first | (simp; done) | assumption | (simp; omega)); have z7_3 : w5.heap.size < w7.heap.size := zz hb7 (by first | (simp; done) | assumption | (simp; omega)); have hc7_4 := fun o => (bcell hb7).1 (w6.heap.size) o (by first | (simp; done) | assumption | (simp; omega)); have hf7_4 := fun o => (bcell hb7).2 (w6.heap.size) o (by first | (simp; done) | assumption | (simp; omega)); have z7_4 : w6.heap.size < w7.heap.size := zz hb7 (by first | (simp; done) | assumption | (simp; omega))
  go_wp2
  go_ret
  exact ⟨rfl, by repeat (with_reducible (first | exact Below.refl _ _ | assumption | apply ba | apply bd | apply bdr | (refine bs ?_ (by first | assumption | (simp; done) | (simp; omega))) | (refine bt ?_ (by assumption))))⟩
theorem back_law (k n c : Int) (l : List UInt8) (b : Bool) (hn : InI n) (hc : InI c) (hl : l.length ≤ 1048576) (w : World) (hT : TT w) : Calls Tryz.prog 5 #[.agg #[.int .i64 k, .int .i64 n, .int .i64 c, .string (ba' l), .bool b]] w fun e w' => e = .returned (.bool true) ∧ Below w.heap.size w w' := by
  rcases refR_cases k n c l b hn hc hl with ⟨a, ha, e, HR⟩ | HR
  · rw [e]
    have h3 := cast_av a ha 3
    have h5 := cast_av a ha 5
    have ho := cast_av a ha a.kind
    have hs := cast_av (.str (textZ a)) (text_ok a ha) a.kind
    have hr := cast_av (.raw (textZ a)) (text_ok a ha) a.kind
    rw [cast_own] at ho
    rw [cast_str a ha] at hs
    rw [cast_raw a ha] at hr
    cases a with
    | int n => exact back_core 1 n 0 ⟨#[]⟩ false _ w hT HR h3 h5 ho hs hr
    | dec n c => exact back_core 2 n c ⟨#[]⟩ false _ w hT HR h3 h5 ho hs hr
    | str l => exact back_core 3 0 0 (ba' l) false _ w hT HR h3 h5 ho hs hr
    | boo b => exact back_core 4 0 0 ⟨#[]⟩ b _ w hT HR h3 h5 ho hs hr
    | raw l => exact back_core 5 0 0 (ba' l) false _ w hT HR h3 h5 ho hs hr
  · exact back_no k n c (ba' l) b w hT HR
end Go.Proofs.YtemgabmafmehnaaGreatDoor
