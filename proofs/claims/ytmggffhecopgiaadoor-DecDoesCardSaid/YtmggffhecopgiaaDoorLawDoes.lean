/- The statement DecDoes answers true at every two numbers. No condition beyond what the theorems state. -/
import Derived.Test.YtmggffhecopgiaaDoorLawEven
import Derived.Test.YtmggffhecopgiaaDoorDoAll
namespace Go.Proofs
open Go.Shelf Go.RowKit Go.Proofs.Wide
set_option maxRecDepth 100000 in
set_option maxHeartbeats 4000000 in
theorem does_not0 (n1 k1 n2 k2 : Int) (w0 : World) (W : Hid (Gives 8 #[] (.bool true)))
    (R1 : Hid (Gives 10 #[.agg #[.int .i64 (n1), .int .i64 (k1)]] (.bool false))) :
    Calls Tryd.prog 4 #[nv n1 k1, nv n2 k2] w0 fun e w' => e = .returned (.bool true) ∧ Below w0.heap.size w0 w' := by
  unfold nv
  go_enter Tryd.func4, Tryd.ntmps4
  go_wp2_with fail
  go_at_call 8; refine (W.out.call _).mono ?_; rintro e w1 ⟨rfl, hb1⟩
  have A1 : Own w1 w0.heap.size (.int .i64 n1) (.int .i64 k1) := ((Own.new_at (by simp)).alloc _).call hb1
  have B1 : Own w1 (w0.heap.size + 1) (.int .i64 n2) (.int .i64 k2) := (Own.new_at (by simp)).call hb1
  (have Q := A1; obtain ⟨_, _, _, _⟩ := Q)
  (have Q := B1; obtain ⟨_, _, _, _⟩ := Q)
  go_wp2_with fail
  go_at_call 10; refine (R1.out.call _).mono ?_; rintro e w2 ⟨rfl, hb2⟩
  have B2 := B1.call hb2
  (have Q := B2; obtain ⟨_, _, _, _⟩ := Q)
  go_wp2_with fail
  go_at_call 8; refine (W.out.call _).mono ?_; rintro e w9 ⟨rfl, hb9⟩
  go_wp2
  go_ret
  exact ⟨rfl, by repeat (first | exact Below.refl _ _ | apply ba | (refine bt ?_ (by assumption)))⟩

set_option maxRecDepth 100000 in
set_option maxHeartbeats 4000000 in
theorem does_not1 (n1 k1 n2 k2 : Int) (w0 : World) (W : Hid (Gives 8 #[] (.bool true)))
    (R1 : Hid (Gives 10 #[.agg #[.int .i64 (n1), .int .i64 (k1)]] (.bool true)))
    (R2 : Hid (Gives 10 #[.agg #[.int .i64 (n2), .int .i64 (k2)]] (.bool false))) :
    Calls Tryd.prog 4 #[nv n1 k1, nv n2 k2] w0 fun e w' => e = .returned (.bool true) ∧ Below w0.heap.size w0 w' := by
  unfold nv
  go_enter Tryd.func4, Tryd.ntmps4
  go_wp2_with fail
  go_at_call 8; refine (W.out.call _).mono ?_; rintro e w1 ⟨rfl, hb1⟩
  have A1 : Own w1 w0.heap.size (.int .i64 n1) (.int .i64 k1) := ((Own.new_at (by simp)).alloc _).call hb1
  have B1 : Own w1 (w0.heap.size + 1) (.int .i64 n2) (.int .i64 k2) := (Own.new_at (by simp)).call hb1
  (have Q := A1; obtain ⟨_, _, _, _⟩ := Q)
  (have Q := B1; obtain ⟨_, _, _, _⟩ := Q)
  go_wp2_with fail
  go_at_call 10; refine (R1.out.call _).mono ?_; rintro e w2 ⟨rfl, hb2⟩
  have B2 := B1.call hb2
  (have Q := B2; obtain ⟨_, _, _, _⟩ := Q)
  go_wp2_with fail
  go_at_call 10; refine (R2.out.call _).mono ?_; rintro e w3 ⟨rfl, hb3⟩
  have B3 := B2.call hb3
  (have Q := B3; obtain ⟨_, _, _, _⟩ := Q)
  go_wp2_with fail
  go_at_call 8; refine (W.out.call _).mono ?_; rintro e w9 ⟨rfl, hb9⟩
  go_wp2
  go_ret
  exact ⟨rfl, by repeat (first | exact Below.refl _ _ | apply ba | (refine bt ?_ (by assumption)))⟩
set_option maxRecDepth 100000 in
set_option maxHeartbeats 8000000 in
theorem does_core (n1 k1 n2 k2 a0 b0 e0 a1 b1 e1 a2 b2 e2 a3 b3 e3 a4 b4 e4 a5 b5 e5 x : Int) (w0 : World) (W : Hid (Gives 8 #[] (.bool true))) (R1 : Hid (Gives 10 #[.agg #[.int .i64 n1, .int .i64 k1]] (.bool true))) (R2 : Hid (Gives 10 #[.agg #[.int .i64 n2, .int .i64 k2]] (.bool true)))
    (P0 : Hid (Gives 18 #[.agg #[.int .i64 n1, .int .i64 k1], .agg #[.int .i64 n2, .int .i64 k2]] (.tuple #[.agg #[.int .i64 a0, .int .i64 b0], .int .i64 e0]))) (D0 : Hid (Gives 24 #[.int .i64 0, .int .i64 n1, .int .i64 k1, .int .i64 n2, .int .i64 k2] (.tuple #[.int .i64 a0, .int .i64 b0, .int .i64 e0])))
    (P1 : Hid (Gives 19 #[.agg #[.int .i64 n1, .int .i64 k1], .agg #[.int .i64 n2, .int .i64 k2]] (.tuple #[.agg #[.int .i64 a1, .int .i64 b1], .int .i64 e1]))) (D1 : Hid (Gives 24 #[.int .i64 1, .int .i64 n1, .int .i64 k1, .int .i64 n2, .int .i64 k2] (.tuple #[.int .i64 a1, .int .i64 b1, .int .i64 e1])))
    (P2 : Hid (Gives 20 #[.agg #[.int .i64 n1, .int .i64 k1], .agg #[.int .i64 n2, .int .i64 k2]] (.tuple #[.agg #[.int .i64 a2, .int .i64 b2], .int .i64 e2]))) (D2 : Hid (Gives 24 #[.int .i64 2, .int .i64 n1, .int .i64 k1, .int .i64 n2, .int .i64 k2] (.tuple #[.int .i64 a2, .int .i64 b2, .int .i64 e2])))
    (P3 : Hid (Gives 21 #[.agg #[.int .i64 n1, .int .i64 k1], .agg #[.int .i64 n2, .int .i64 k2]] (.tuple #[.agg #[.int .i64 a3, .int .i64 b3], .int .i64 e3]))) (D3 : Hid (Gives 24 #[.int .i64 3, .int .i64 n1, .int .i64 k1, .int .i64 n2, .int .i64 k2] (.tuple #[.int .i64 a3, .int .i64 b3, .int .i64 e3])))
    (P4 : Hid (Gives 22 #[.agg #[.int .i64 n1, .int .i64 k1], .agg #[.int .i64 n2, .int .i64 k2]] (.tuple #[.agg #[.int .i64 a4, .int .i64 b4], .int .i64 e4]))) (D4 : Hid (Gives 24 #[.int .i64 4, .int .i64 n1, .int .i64 k1, .int .i64 n2, .int .i64 k2] (.tuple #[.int .i64 a4, .int .i64 b4, .int .i64 e4])))
    (P5 : Hid (Gives 23 #[.agg #[.int .i64 n1, .int .i64 k1], .agg #[.int .i64 n2, .int .i64 k2]] (.tuple #[.agg #[.int .i64 a5, .int .i64 b5], .int .i64 e5]))) (D5 : Hid (Gives 24 #[.int .i64 5, .int .i64 n1, .int .i64 k1, .int .i64 n2, .int .i64 k2] (.tuple #[.int .i64 a5, .int .i64 b5, .int .i64 e5])))
    (C1 : Hid (Gives 25 #[.agg #[.int .i64 n1, .int .i64 k1], .agg #[.int .i64 n2, .int .i64 k2]] (.int .i64 x))) (C2 : Hid (Gives 26 #[.int .i64 n1, .int .i64 k1, .int .i64 n2, .int .i64 k2] (.int .i64 x))) :
    Calls Tryd.prog 4 #[nv n1 k1, nv n2 k2] w0 fun e w' => e = .returned (.bool true) ∧ Below w0.heap.size w0 w' := by
  unfold nv
  go_enter Tryd.func4, Tryd.ntmps4
  go_wp2_with fail
  go_at_call 8; refine (W.out.call _).mono ?_; rintro e w1 ⟨rfl, hb1⟩
  have A1 : Own w1 w0.heap.size (.int .i64 n1) (.int .i64 k1) := ((Own.new_at (by simp)).alloc _).call hb1
  have B1 : Own w1 (w0.heap.size + 1) (.int .i64 n2) (.int .i64 k2) := (Own.new_at (by simp)).call hb1
  (have Q := A1; obtain ⟨_, _, _, _⟩ := Q)
  (have Q := B1; obtain ⟨_, _, _, _⟩ := Q)
  go_wp2_with fail
  go_at_call 10; refine (R1.out.call _).mono ?_; rintro e w2 ⟨rfl, hb2⟩
  have A2 := A1.call hb2
  have B2 := B1.call hb2
  (have Q := B2; obtain ⟨_, _, _, _⟩ := Q)
  go_wp2_with fail
  go_at_call 10; refine (R2.out.call _).mono ?_; rintro e w3 ⟨rfl, hb3⟩
  have A3 := A2.call hb3
  have B3 := B2.call hb3
  have Bw3 : Below w0.heap.size w0 w3 := (by repeat (with_reducible (first | exact Below.refl _ _ | assumption | apply ba | apply bd | apply bdr | (refine bs ?_ (by first | assumption | (simp; done) | (simp; omega))) | (refine bt ?_ (by assumption)))))
  clear A1 B1 A2 B2 hb1 hb2 hb3
  go_wp2
  go_loopw [5] (fun s5 wx => ∃ q : Nat, s5 = .int .i64 q ∧ q ≤ 6 ∧ Own wx w0.heap.size (.int .i64 n1) (.int .i64 k1) ∧ Own wx (w0.heap.size + 1) (.int .i64 n2) (.int .i64 k2) ∧ Below w0.heap.size w0 wx) (fun s5 _ => 6 - (intOf s5).toNat)
  case atStart => exact ⟨0, rfl, by omega, A3, B3, Bw3⟩
  case round =>
    obtain ⟨q, rfl, hq, O0, O1, HB⟩ := hrel
    clear A3 B3 Bw3
    have L0 := O0.lt
    have L1 := O1.lt
    obtain ⟨_, _, _, _⟩ := id O0
    obtain ⟨_, _, _, _⟩ := id O1
    rcases (by omega : q = 0 ∨ q = 1 ∨ q = 2 ∨ q = 3 ∨ q = 4 ∨ q = 5 ∨ q = 6) with rfl | rfl | rfl | rfl | rfl | rfl | rfl
    · go_wp2_with fail
      refine (P0.out.call _).mono ?_; rintro e wa ⟨rfl, hba⟩
      have A0 := (O0.alloc _).call hba
      have A1 := (O1.alloc _).call hba
      have AC : Own wa wr.heap.size (.int .i64 0) (.int .i64 0) := Own.call (Own.new_at rfl) hba
      obtain ⟨_, _, _, _⟩ := id A0
      obtain ⟨_, _, _, _⟩ := id A1
      obtain ⟨_, _, _, _⟩ := id AC
      have Ba : Below w0.heap.size w0 wa := (by repeat (with_reducible (first | exact Below.refl _ _ | assumption | apply ba | apply bd | apply bdr | (refine bs ?_ (by first | assumption | (simp; done) | (simp; omega))) | (refine bt ?_ (by assumption)))))
      go_wp2_with fail
      refine (D0.out.call _).mono ?_; rintro e wb ⟨rfl, hbb⟩
      have C2 := (AC.store (.int .i64 a0) (.int .i64 b0)).call hbb
      have A02 := Own.call (Own.set_ (Own.set_ A0 (by simp; omega)) (by simp; omega)) hbb
      have A12 := Own.call (Own.set_ (Own.set_ A1 (by simp; omega)) (by simp; omega)) hbb
      (have Q := C2; obtain ⟨_, _, _, _⟩ := Q)
      have Bb : Below w0.heap.size w0 wb := (by repeat (with_reducible (first | exact Below.refl _ _ | assumption | apply ba | apply bd | apply bdr | (refine bs ?_ (by first | assumption | (simp; done) | (simp; omega))) | (refine bt ?_ (by assumption)))))
      clear hba hbb A0 A1 AC
      go_wp2
      go_roundw
      case rel => exact ⟨1, rfl, by omega, A02, A12, Bb⟩
      case measure => simp [intOf]
    · go_wp2_with fail
      refine (P1.out.call _).mono ?_; rintro e wa ⟨rfl, hba⟩
      have A0 := (O0.alloc _).call hba
      have A1 := (O1.alloc _).call hba
      have AC : Own wa wr.heap.size (.int .i64 0) (.int .i64 0) := Own.call (Own.new_at rfl) hba
      obtain ⟨_, _, _, _⟩ := id A0
      obtain ⟨_, _, _, _⟩ := id A1
      obtain ⟨_, _, _, _⟩ := id AC
      have Ba : Below w0.heap.size w0 wa := (by repeat (with_reducible (first | exact Below.refl _ _ | assumption | apply ba | apply bd | apply bdr | (refine bs ?_ (by first | assumption | (simp; done) | (simp; omega))) | (refine bt ?_ (by assumption)))))
      go_wp2_with fail
      refine (D1.out.call _).mono ?_; rintro e wb ⟨rfl, hbb⟩
      have C2 := (AC.store (.int .i64 a1) (.int .i64 b1)).call hbb
      have A02 := Own.call (Own.set_ (Own.set_ A0 (by simp; omega)) (by simp; omega)) hbb
      have A12 := Own.call (Own.set_ (Own.set_ A1 (by simp; omega)) (by simp; omega)) hbb
      (have Q := C2; obtain ⟨_, _, _, _⟩ := Q)
      have Bb : Below w0.heap.size w0 wb := (by repeat (with_reducible (first | exact Below.refl _ _ | assumption | apply ba | apply bd | apply bdr | (refine bs ?_ (by first | assumption | (simp; done) | (simp; omega))) | (refine bt ?_ (by assumption)))))
      clear hba hbb A0 A1 AC
      go_wp2
      go_roundw
      case rel => exact ⟨2, rfl, by omega, A02, A12, Bb⟩
      case measure => simp [intOf]
    · go_wp2_with fail
      refine (P2.out.call _).mono ?_; rintro e wa ⟨rfl, hba⟩
      have A0 := (O0.alloc _).call hba
      have A1 := (O1.alloc _).call hba
      have AC : Own wa wr.heap.size (.int .i64 0) (.int .i64 0) := Own.call (Own.new_at rfl) hba
      obtain ⟨_, _, _, _⟩ := id A0
      obtain ⟨_, _, _, _⟩ := id A1
      obtain ⟨_, _, _, _⟩ := id AC
      have Ba : Below w0.heap.size w0 wa := (by repeat (with_reducible (first | exact Below.refl _ _ | assumption | apply ba | apply bd | apply bdr | (refine bs ?_ (by first | assumption | (simp; done) | (simp; omega))) | (refine bt ?_ (by assumption)))))
      go_wp2_with fail
      refine (D2.out.call _).mono ?_; rintro e wb ⟨rfl, hbb⟩
      have C2 := (AC.store (.int .i64 a2) (.int .i64 b2)).call hbb
      have A02 := Own.call (Own.set_ (Own.set_ A0 (by simp; omega)) (by simp; omega)) hbb
      have A12 := Own.call (Own.set_ (Own.set_ A1 (by simp; omega)) (by simp; omega)) hbb
      (have Q := C2; obtain ⟨_, _, _, _⟩ := Q)
      have Bb : Below w0.heap.size w0 wb := (by repeat (with_reducible (first | exact Below.refl _ _ | assumption | apply ba | apply bd | apply bdr | (refine bs ?_ (by first | assumption | (simp; done) | (simp; omega))) | (refine bt ?_ (by assumption)))))
      clear hba hbb A0 A1 AC
      go_wp2
      go_roundw
      case rel => exact ⟨3, rfl, by omega, A02, A12, Bb⟩
      case measure => simp [intOf]
    · go_wp2_with fail
      refine (P3.out.call _).mono ?_; rintro e wa ⟨rfl, hba⟩
      have A0 := (O0.alloc _).call hba
      have A1 := (O1.alloc _).call hba
      have AC : Own wa wr.heap.size (.int .i64 0) (.int .i64 0) := Own.call (Own.new_at rfl) hba
      obtain ⟨_, _, _, _⟩ := id A0
      obtain ⟨_, _, _, _⟩ := id A1
      obtain ⟨_, _, _, _⟩ := id AC
      have Ba : Below w0.heap.size w0 wa := (by repeat (with_reducible (first | exact Below.refl _ _ | assumption | apply ba | apply bd | apply bdr | (refine bs ?_ (by first | assumption | (simp; done) | (simp; omega))) | (refine bt ?_ (by assumption)))))
      go_wp2_with fail
      refine (D3.out.call _).mono ?_; rintro e wb ⟨rfl, hbb⟩
      have C2 := (AC.store (.int .i64 a3) (.int .i64 b3)).call hbb
      have A02 := Own.call (Own.set_ (Own.set_ A0 (by simp; omega)) (by simp; omega)) hbb
      have A12 := Own.call (Own.set_ (Own.set_ A1 (by simp; omega)) (by simp; omega)) hbb
      (have Q := C2; obtain ⟨_, _, _, _⟩ := Q)
      have Bb : Below w0.heap.size w0 wb := (by repeat (with_reducible (first | exact Below.refl _ _ | assumption | apply ba | apply bd | apply bdr | (refine bs ?_ (by first | assumption | (simp; done) | (simp; omega))) | (refine bt ?_ (by assumption)))))
      clear hba hbb A0 A1 AC
      go_wp2
      go_roundw
      case rel => exact ⟨4, rfl, by omega, A02, A12, Bb⟩
      case measure => simp [intOf]
    · go_wp2_with fail
      refine (P4.out.call _).mono ?_; rintro e wa ⟨rfl, hba⟩
      have A0 := (O0.alloc _).call hba
      have A1 := (O1.alloc _).call hba
      have AC : Own wa wr.heap.size (.int .i64 0) (.int .i64 0) := Own.call (Own.new_at rfl) hba
      obtain ⟨_, _, _, _⟩ := id A0
      obtain ⟨_, _, _, _⟩ := id A1
      obtain ⟨_, _, _, _⟩ := id AC
      have Ba : Below w0.heap.size w0 wa := (by repeat (with_reducible (first | exact Below.refl _ _ | assumption | apply ba | apply bd | apply bdr | (refine bs ?_ (by first | assumption | (simp; done) | (simp; omega))) | (refine bt ?_ (by assumption)))))
      go_wp2_with fail
      refine (D4.out.call _).mono ?_; rintro e wb ⟨rfl, hbb⟩
      have C2 := (AC.store (.int .i64 a4) (.int .i64 b4)).call hbb
      have A02 := Own.call (Own.set_ (Own.set_ A0 (by simp; omega)) (by simp; omega)) hbb
      have A12 := Own.call (Own.set_ (Own.set_ A1 (by simp; omega)) (by simp; omega)) hbb
      (have Q := C2; obtain ⟨_, _, _, _⟩ := Q)
      have Bb : Below w0.heap.size w0 wb := (by repeat (with_reducible (first | exact Below.refl _ _ | assumption | apply ba | apply bd | apply bdr | (refine bs ?_ (by first | assumption | (simp; done) | (simp; omega))) | (refine bt ?_ (by assumption)))))
      clear hba hbb A0 A1 AC
      go_wp2
      go_roundw
      case rel => exact ⟨5, rfl, by omega, A02, A12, Bb⟩
      case measure => simp [intOf]
    · go_wp2_with fail
      refine (P5.out.call _).mono ?_; rintro e wa ⟨rfl, hba⟩
      have A0 := (O0.alloc _).call hba
      have A1 := (O1.alloc _).call hba
      have AC : Own wa wr.heap.size (.int .i64 0) (.int .i64 0) := Own.call (Own.new_at rfl) hba
      obtain ⟨_, _, _, _⟩ := id A0
      obtain ⟨_, _, _, _⟩ := id A1
      obtain ⟨_, _, _, _⟩ := id AC
      have Ba : Below w0.heap.size w0 wa := (by repeat (with_reducible (first | exact Below.refl _ _ | assumption | apply ba | apply bd | apply bdr | (refine bs ?_ (by first | assumption | (simp; done) | (simp; omega))) | (refine bt ?_ (by assumption)))))
      go_wp2_with fail
      refine (D5.out.call _).mono ?_; rintro e wb ⟨rfl, hbb⟩
      have C2 := (AC.store (.int .i64 a5) (.int .i64 b5)).call hbb
      have A02 := Own.call (Own.set_ (Own.set_ A0 (by simp; omega)) (by simp; omega)) hbb
      have A12 := Own.call (Own.set_ (Own.set_ A1 (by simp; omega)) (by simp; omega)) hbb
      (have Q := C2; obtain ⟨_, _, _, _⟩ := Q)
      have Bb : Below w0.heap.size w0 wb := (by repeat (with_reducible (first | exact Below.refl _ _ | assumption | apply ba | apply bd | apply bdr | (refine bs ?_ (by first | assumption | (simp; done) | (simp; omega))) | (refine bt ?_ (by assumption)))))
      clear hba hbb A0 A1 AC
      go_wp2
      go_roundw
      case rel => exact ⟨6, rfl, by omega, A02, A12, Bb⟩
      case measure => simp [intOf]
    · go_wp2
      go_region_held3 (fun w' => w'.cell? ⟨w0.heap.size, 0, none⟩ = some (.int .i64 n1) ∧ w'.cell? ⟨w0.heap.size, 1, none⟩ = some (.int .i64 k1) ∧ w'.cell? ⟨w0.heap.size + 1, 0, none⟩ = some (.int .i64 n2) ∧ w'.cell? ⟨w0.heap.size + 1, 1, none⟩ = some (.int .i64 k2) ∧ w0.heap.size < w'.heap.size ∧ w0.heap.size + 1 < w'.heap.size ∧ Below w0.heap.size w0 w')
        (first | (go_keep; done) | ((repeat' apply And.intro) <;> first | (with_reducible assumption) | (go_keep; done) | (refine Nat.lt_of_lt_of_le (by assumption) ?_; simp; done) | (simp; omega) | exact zz (by assumption) (by simp) | exact zz (by assumption) (by assumption) | repeat (with_reducible (first | exact Below.refl _ _ | assumption | apply ba | apply bd | apply bdr | (refine bs ?_ (by first | assumption | (simp; done) | (simp; omega))) | (refine bt ?_ (by assumption))))))
        (first
          | (go_at_call 25; (with_reducible refine (C1.out.call _).mono ?_); rintro e w5 ⟨rfl, hb5⟩; have B5 : Below w0.heap.size w0 w5 := (by repeat (with_reducible (first | exact Below.refl _ _ | assumption | apply ba | apply bd | apply bdr | (refine bs ?_ (by first | assumption | (simp; done) | (simp; omega))) | (refine bt ?_ (by assumption))))); have hc5_0 := fun o => (bcell hb5).1 (w0.heap.size) o (by first | (with_reducible assumption) | (simp; done) | (simp; omega)); have z5_0 : w0.heap.size < w5.heap.size := zz hb5 (by first | (with_reducible assumption) | (simp; done) | (simp; omega)); have hc5_1 := fun o => (bcell hb5).1 (w0.heap.size + 1) o (by first | (with_reducible assumption) | (simp; done) | (simp; omega)); have z5_1 : w0.heap.size + 1 < w5.heap.size := zz hb5 (by first | (with_reducible assumption) | (simp; done) | (simp; omega)))
          | (go_at_call 26; (with_reducible refine (C2.out.call _).mono ?_); rintro e w6 ⟨rfl, hb6⟩; have B6 : Below w0.heap.size w0 w6 := (by repeat (with_reducible (first | exact Below.refl _ _ | assumption | apply ba | apply bd | apply bdr | (refine bs ?_ (by first | assumption | (simp; done) | (simp; omega))) | (refine bt ?_ (by assumption))))); have hc6_0 := fun o => (bcell hb6).1 (w0.heap.size) o (by first | (with_reducible assumption) | (simp; done) | (simp; omega)); have z6_0 : w0.heap.size < w6.heap.size := zz hb6 (by first | (with_reducible assumption) | (simp; done) | (simp; omega)); have hc6_1 := fun o => (bcell hb6).1 (w0.heap.size + 1) o (by first | (with_reducible assumption) | (simp; done) | (simp; omega)); have z6_1 : w0.heap.size + 1 < w6.heap.size := zz hb6 (by first | (with_reducible assumption) | (simp; done) | (simp; omega))))
      all_goals go_wp2
      all_goals go_ret
      all_goals exact ⟨rfl, (by repeat (with_reducible (first | exact Below.refl _ _ | assumption | apply ba | apply bd | apply bdr | (refine bs ?_ (by first | assumption | (simp; done) | (simp; omega))) | (refine bt ?_ (by assumption)))))⟩
end Go.Proofs
namespace Go.Proofs
open Go.Shelf Go.RowKit Go.Proofs.Wide Go.Proofs.Dig
theorem gd {n m : Int} {k l : Nat} (h : RightZ n k) (h' : RightZ m l) (hm : m ≠ 0) : Hid (Gives 21 #[.agg #[.int .i64 n, .int .i64 k], .agg #[.int .i64 m, .int .i64 l]] (outV (divZ n k m l))) := gives_unfold fun w => div_any n m k l h h' hm w
theorem gd0 {n : Int} {k l : Nat} (h : RightZ n k) (h' : RightZ 0 l) : Hid (Gives 21 #[.agg #[.int .i64 n, .int .i64 k], .agg #[.int .i64 0, .int .i64 l]] (.tuple #[.agg #[.int .i64 0, .int .i64 0], .int .i64 52])) := gives_unfold fun w => div_zero n k l h h' w
theorem does_law (n1 k1 n2 k2 : Int) (a1 : InI n1) (b1 : InI k1) (a2 : InI n2) (b2 : InI k2) (w : World) :
    Calls Tryd.prog 4 #[nv n1 k1, nv n2 k2] w fun e w' => e = .returned (.bool true) ∧ Below w.heap.size w w' := by
  cases r1 : rightB (n1, k1) with
  | false => exact does_not0 n1 k1 n2 k2 w wake (gr a1 b1 r1)
  | true =>
  cases r2 : rightB (n2, k2) with
  | false => exact does_not1 n1 k1 n2 k2 w wake (gr a1 b1 r1) (gr a2 b2 r2)
  | true =>
  obtain ⟨j1, rfl, z1⟩ := right_of r1
  obtain ⟨j2, rfl, z2⟩ := right_of r2
  by_cases hm : n2 = 0
  · subst hm
    exact does_core n1 j1 0 j2 _ _ _ _ _ _ _ _ _ 0 0 52 0 0 52 0 0 52 _ w wake (gr a1 b1 r1) (gr a2 b2 r2) (ga z1 z2) (go_0 z1 z2) (gs z1 z2) (go_1 z1 z2) (gm z1 z2) (go_2 z1 z2) (gd0 z1 z2) (go_z3 z1 z2) (gi0 z1 z2) (go_z4 z1 z2) (gmo0 z1 z2) (go_z5 z1 z2) (gc z1 z2) (go_cmp z1 z2)
  · exact does_core n1 j1 n2 j2 _ _ _ _ _ _ _ _ _ _ _ _ _ _ _ _ _ _ _ w wake (gr a1 b1 r1) (gr a2 b2 r2) (ga z1 z2) (go_0 z1 z2) (gs z1 z2) (go_1 z1 z2) (gm z1 z2) (go_2 z1 z2) (gd z1 z2 hm) (go_3 z1 z2 hm) (gi z1 z2 hm) (go_4 z1 z2 hm) (gmo z1 z2 hm) (go_5 z1 z2 hm) (gc z1 z2) (go_cmp z1 z2)
end Go.Proofs
