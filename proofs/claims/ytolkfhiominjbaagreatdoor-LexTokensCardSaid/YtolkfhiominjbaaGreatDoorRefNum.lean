/- The reference Next where a number stands. No condition beyond what the theorems state. -/
import Derived.Test.YtolkfhiominjbaaGreatDoorRefNext
namespace Go.Proofs.YtolkfhiominjbaaGreatDoor
open Go.RowKit Go.Lib
set_option maxRecDepth 100000
set_option maxHeartbeats 8000000
theorem nx_num (s : List UInt8) (i j : Nat) (hs : s.length ≤ 65536) (hj : j < s.length) (w : World) (HSK : Hid (∀ W, Calls Tryz.prog 15 #[.string (ba' s), .int .i64 (i : Nat)] W fun e w' => e = .returned (.int .i64 (j : Nat)) ∧ w' = W))
    (c : UInt8) (hc : s[j]'hj = c) (h36 : ((c.toNat : Int) == 36) = false) (h34 : ((c.toNat : Int) == 34) = false) (h39 : ((c.toNat : Int) == 39) = false) (HNM : Hid (Place 16 s j j)) (d0 : Bool) (HD0 : Hid (Tells 19 #[.string (ba' s), .int .i64 (j : Nat)] d0)) (h46 : d0 = false → ((c.toNat : Int) == 46) = true) (HD1 : d0 = false → Hid (Tells 19 #[.string (ba' s), .int .i64 ((j : Int) + 1)] true)) (P : Nat) (hP : j ≤ P) (hPl : P ≤ s.length) (HDG : Hid (∀ p : Nat, j ≤ p → p ≤ P → Tells 19 #[.string (ba' s), .int .i64 (p : Nat)] (decide (p < P)))) (HAT : Hid (Tells 17 #[.string (ba' s), .int .i64 (P : Nat), .string ⟨#[46]⟩] false)) (F : Nat) (hF : Hid (P = F)) (HNE : Hid (Place 16 s P F)) (x : List UInt8) (hx : (ba' s).extract j P = ba' x) :
    Calls Tryz.prog 9 #[.string (ba' s), .int .i64 (i : Nat)] w fun e w' => e = .returned (Say4 3 (ba' x) (j : Int) (P : Int)) ∧ Below w.heap.size w w' := by
  have s1 : (ba' s).size = s.length := size_ba s
  have k0 : decide ((j : Int) < 0) = false := by simp
  have gE : ((j : Int) == (s.length : Int)) = false := by rw [beq_eq_false_iff_ne]; omega
  have gE' : (j == s.length) = false := by rw [beq_eq_false_iff_ne]; omega
  have g0 : decide ((j : Int) < (j : Int)) = false := by simp
  have g0' : decide ((j : Int) > (j : Int)) = false := by simp
  have hj' : j < (ba' s).size := by omega
  have ec : (ba' s)[j]'hj' = c := hc
  have g3 : decide ((P : Int) < (F : Int)) = false := by have := hF.out; simp; omega
  have g3' : decide ((F : Int) > (P : Int)) = false := by have := hF.out; simp; omega
  have g3n : decide (P < F) = false := by have := hF.out; simp; omega
  cases d0 with
  | true =>
    clear h46 HD1
    go_enter Tryz.func9, Tryz.ntmps9
    go_wp2_with fail
    refine (HSK.out _).mono ?_
    rintro e w1 ⟨rfl, rfl⟩
    go_wp2_with fail
    refine (HNM.out _).mono ?_
    rintro e w2 ⟨rfl, hb2⟩
    have HB2 : Hid (Below w.heap.size w w2) := Lib.hid (bt (ba (ba (Below.refl _ _))) hb2)
    have T0 : Hid (Tok4 w2 w.heap.size (.int .i64 0) (.string ⟨#[]⟩) (.int .i64 0) (.int .i64 0)) := Lib.hid (Tok4.below ⟨by simp, by simp, by simp, by simp, fun o => by simp, by simp <;> omega⟩ hb2)
    have T1 : Hid (Tok4 w2 (w.heap.size + 1) (.int .i64 0) (.string ⟨#[]⟩) (.int .i64 (j : Nat)) (.int .i64 0)) := Lib.hid (Tok4.below ⟨by simp, by simp, by simp, by simp, fun o => by simp, by simp <;> omega⟩ hb2)
    clear hb2
    obtain ⟨a0, a1, a2, a3, af, az⟩ := T0.out
    obtain ⟨b0, b1, b2, b3, bf, bz⟩ := T1.out
    go_wp2_with fail
    refine (HD0.out _).mono ?_
    rintro e w9 ⟨rfl, rfl⟩
    go_wp2
    have U0 := Lib.hid (Tok4.other (o := 0) (.int .i64 3) (show w.heap.size + 1 ≠ w.heap.size by omega) T0.out)
    have U1 := Lib.hid (Tok4.set0 (.int .i64 3) T1.out)
    have HB3 : Hid (Below w.heap.size w (w9.setCell ⟨w.heap.size + 1, 0, none⟩ (.int .i64 3))) := Lib.hid (bs HB2.out (by simp))
    go_loopw [7] (fun s7 wx => ∃ p : Nat, s7 = .int .i64 (p : Nat) ∧ j ≤ p ∧ p ≤ P ∧ Hid (Tok4 wx w.heap.size (.int .i64 0) (.string ⟨#[]⟩) (.int .i64 0) (.int .i64 0)) ∧ Hid (Tok4 wx (w.heap.size + 1) (.int .i64 3) (.string ⟨#[]⟩) (.int .i64 (j : Nat)) (.int .i64 0)) ∧ Hid (Below w.heap.size w wx)) (fun s7 _ => P - (intOf s7).toNat)
    case atStart => exact ⟨j, rfl, Nat.le_refl _, hP, U0, U1, HB3⟩
    case round =>
      obtain ⟨p, rfl, hp1, hp2, HT0, HT1, HBW⟩ := hrel
      clear a0 a1 a2 a3 af az b0 b1 b2 b3 bf bz T0 T1 U0 U1 HB3 HB2
      have HC := Lib.hid (HDG.out p hp1 hp2)
      by_cases hlt : p < P
      · rw [decide_eq_true hlt] at HC
        clear hx g3 g3' g3n
        go_wp2_with fail
        refine (HC.out _).mono ?_
        rintro e w3 ⟨rfl, rfl⟩
        go_wp2
        go_roundw
        case rel => exact ⟨p + 1, by go_num, by omega, by omega, HT0, HT1, HBW⟩
        case measure => simp [intOf]; omega
      · rw [decide_eq_false hlt] at HC
        have hpP : p = P := by omega
        subst hpP
        clear HDG hlt hp1 hp2
        go_wp2_with fail
        refine (HC.out _).mono ?_
        rintro e w3 ⟨rfl, rfl⟩
        go_wp2_with fail
        refine (HAT.out _).mono ?_
        rintro e w4 ⟨rfl, rfl⟩
        go_wp2_with fail
        refine (HNE.out _).mono ?_
        rintro e w6 ⟨rfl, hb6⟩
        have HB6 : Hid (Below w.heap.size w w6) := Lib.hid (bt HBW.out hb6)
        have V0 := Lib.hid (HT0.out.below hb6)
        have V1 := Lib.hid (HT1.out.below hb6)
        clear hb6
        obtain ⟨a0, a1, a2, a3, af, az⟩ := V0.out
        obtain ⟨b0, b1, b2, b3, bf, bz⟩ := V1.out
        go_wp2
        refine bodyPost_ret (v := Say4 3 (ba' x) (j : Int) (p : Int)) ?_ rfl ⟨rfl, ?_⟩
        · unfold Say4
          simp [results, Tryz.results9, go_sem, *]
        · have hbz := HB6.out
          repeat (with_reducible (first | assumption | exact ba (Below.refl _ _) | (refine bs ?_ (by simp))))
  | false =>
    have h46b := h46 rfl
    have HD2 := HD1 rfl
    clear h46 HD1
    go_enter Tryz.func9, Tryz.ntmps9
    go_wp2_with fail
    refine (HSK.out _).mono ?_
    rintro e w1 ⟨rfl, rfl⟩
    go_wp2_with fail
    refine (HNM.out _).mono ?_
    rintro e w2 ⟨rfl, hb2⟩
    have HB2 : Hid (Below w.heap.size w w2) := Lib.hid (bt (ba (ba (Below.refl _ _))) hb2)
    have T0 : Hid (Tok4 w2 w.heap.size (.int .i64 0) (.string ⟨#[]⟩) (.int .i64 0) (.int .i64 0)) := Lib.hid (Tok4.below ⟨by simp, by simp, by simp, by simp, fun o => by simp, by simp <;> omega⟩ hb2)
    have T1 : Hid (Tok4 w2 (w.heap.size + 1) (.int .i64 0) (.string ⟨#[]⟩) (.int .i64 (j : Nat)) (.int .i64 0)) := Lib.hid (Tok4.below ⟨by simp, by simp, by simp, by simp, fun o => by simp, by simp <;> omega⟩ hb2)
    clear hb2
    obtain ⟨a0, a1, a2, a3, af, az⟩ := T0.out
    obtain ⟨b0, b1, b2, b3, bf, bz⟩ := T1.out
    go_wp2_with fail
    refine (HD0.out _).mono ?_
    rintro e w8 ⟨rfl, rfl⟩
    go_wp2_with fail
    refine (HD2.out _).mono ?_
    rintro e w9 ⟨rfl, rfl⟩
    go_wp2
    have U0 := Lib.hid (Tok4.other (o := 0) (.int .i64 3) (show w.heap.size + 1 ≠ w.heap.size by omega) T0.out)
    have U1 := Lib.hid (Tok4.set0 (.int .i64 3) T1.out)
    have HB3 : Hid (Below w.heap.size w (w9.setCell ⟨w.heap.size + 1, 0, none⟩ (.int .i64 3))) := Lib.hid (bs HB2.out (by simp))
    go_loopw [7] (fun s7 wx => ∃ p : Nat, s7 = .int .i64 (p : Nat) ∧ j ≤ p ∧ p ≤ P ∧ Hid (Tok4 wx w.heap.size (.int .i64 0) (.string ⟨#[]⟩) (.int .i64 0) (.int .i64 0)) ∧ Hid (Tok4 wx (w.heap.size + 1) (.int .i64 3) (.string ⟨#[]⟩) (.int .i64 (j : Nat)) (.int .i64 0)) ∧ Hid (Below w.heap.size w wx)) (fun s7 _ => P - (intOf s7).toNat)
    case atStart => exact ⟨j, rfl, Nat.le_refl _, hP, U0, U1, HB3⟩
    case round =>
      obtain ⟨p, rfl, hp1, hp2, HT0, HT1, HBW⟩ := hrel
      clear a0 a1 a2 a3 af az b0 b1 b2 b3 bf bz T0 T1 U0 U1 HB3 HB2
      have HC := Lib.hid (HDG.out p hp1 hp2)
      by_cases hlt : p < P
      · rw [decide_eq_true hlt] at HC
        clear hx g3 g3' g3n
        go_wp2_with fail
        refine (HC.out _).mono ?_
        rintro e w3 ⟨rfl, rfl⟩
        go_wp2
        go_roundw
        case rel => exact ⟨p + 1, by go_num, by omega, by omega, HT0, HT1, HBW⟩
        case measure => simp [intOf]; omega
      · rw [decide_eq_false hlt] at HC
        have hpP : p = P := by omega
        subst hpP
        clear HDG hlt hp1 hp2
        go_wp2_with fail
        refine (HC.out _).mono ?_
        rintro e w3 ⟨rfl, rfl⟩
        go_wp2_with fail
        refine (HAT.out _).mono ?_
        rintro e w4 ⟨rfl, rfl⟩
        go_wp2_with fail
        refine (HNE.out _).mono ?_
        rintro e w6 ⟨rfl, hb6⟩
        have HB6 : Hid (Below w.heap.size w w6) := Lib.hid (bt HBW.out hb6)
        have V0 := Lib.hid (HT0.out.below hb6)
        have V1 := Lib.hid (HT1.out.below hb6)
        clear hb6
        obtain ⟨a0, a1, a2, a3, af, az⟩ := V0.out
        obtain ⟨b0, b1, b2, b3, bf, bz⟩ := V1.out
        go_wp2
        refine bodyPost_ret (v := Say4 3 (ba' x) (j : Int) (p : Int)) ?_ rfl ⟨rfl, ?_⟩
        · unfold Say4
          simp [results, Tryz.results9, go_sem, *]
        · have hbz := HB6.out
          repeat (with_reducible (first | assumption | exact ba (Below.refl _ _) | (refine bs ?_ (by simp))))
theorem nx_numx (s : List UInt8) (i j : Nat) (hs : s.length ≤ 65536) (hj : j < s.length) (w : World) (HSK : Hid (∀ W, Calls Tryz.prog 15 #[.string (ba' s), .int .i64 (i : Nat)] W fun e w' => e = .returned (.int .i64 (j : Nat)) ∧ w' = W))
    (c : UInt8) (hc : s[j]'hj = c) (h36 : ((c.toNat : Int) == 36) = false) (h34 : ((c.toNat : Int) == 34) = false) (h39 : ((c.toNat : Int) == 39) = false) (HNM : Hid (Place 16 s j j)) (d0 : Bool) (HD0 : Hid (Tells 19 #[.string (ba' s), .int .i64 (j : Nat)] d0)) (h46 : d0 = false → ((c.toNat : Int) == 46) = true) (HD1 : d0 = false → Hid (Tells 19 #[.string (ba' s), .int .i64 ((j : Int) + 1)] true)) (P : Nat) (hP : j ≤ P) (hPl : P ≤ s.length) (HDG : Hid (∀ p : Nat, j ≤ p → p ≤ P → Tells 19 #[.string (ba' s), .int .i64 (p : Nat)] (decide (p < P)))) (HAT : Hid (Tells 17 #[.string (ba' s), .int .i64 (P : Nat), .string ⟨#[46]⟩] false)) (F : Nat) (hF : Hid (P < F)) (HNE : Hid (Place 16 s P F)) (x : List UInt8) (hx : (ba' s).extract j P = ba' x) :
    Calls Tryz.prog 9 #[.string (ba' s), .int .i64 (i : Nat)] w fun e w' => e = .returned (Zero4) ∧ Below w.heap.size w w' := by
  have s1 : (ba' s).size = s.length := size_ba s
  have k0 : decide ((j : Int) < 0) = false := by simp
  have gE : ((j : Int) == (s.length : Int)) = false := by rw [beq_eq_false_iff_ne]; omega
  have gE' : (j == s.length) = false := by rw [beq_eq_false_iff_ne]; omega
  have g0 : decide ((j : Int) < (j : Int)) = false := by simp
  have g0' : decide ((j : Int) > (j : Int)) = false := by simp
  have hj' : j < (ba' s).size := by omega
  have ec : (ba' s)[j]'hj' = c := hc
  have g3 : decide ((P : Int) < (F : Int)) = true := by have := hF.out; simp; omega
  have g3' : decide ((F : Int) > (P : Int)) = true := by have := hF.out; simp; omega
  have g3n : decide (P < F) = true := by have := hF.out; simp; omega
  cases d0 with
  | true =>
    clear h46 HD1
    go_enter Tryz.func9, Tryz.ntmps9
    go_wp2_with fail
    refine (HSK.out _).mono ?_
    rintro e w1 ⟨rfl, rfl⟩
    go_wp2_with fail
    refine (HNM.out _).mono ?_
    rintro e w2 ⟨rfl, hb2⟩
    have HB2 : Hid (Below w.heap.size w w2) := Lib.hid (bt (ba (ba (Below.refl _ _))) hb2)
    have T0 : Hid (Tok4 w2 w.heap.size (.int .i64 0) (.string ⟨#[]⟩) (.int .i64 0) (.int .i64 0)) := Lib.hid (Tok4.below ⟨by simp, by simp, by simp, by simp, fun o => by simp, by simp <;> omega⟩ hb2)
    have T1 : Hid (Tok4 w2 (w.heap.size + 1) (.int .i64 0) (.string ⟨#[]⟩) (.int .i64 (j : Nat)) (.int .i64 0)) := Lib.hid (Tok4.below ⟨by simp, by simp, by simp, by simp, fun o => by simp, by simp <;> omega⟩ hb2)
    clear hb2
    obtain ⟨a0, a1, a2, a3, af, az⟩ := T0.out
    obtain ⟨b0, b1, b2, b3, bf, bz⟩ := T1.out
    go_wp2_with fail
    refine (HD0.out _).mono ?_
    rintro e w9 ⟨rfl, rfl⟩
    go_wp2
    have U0 := Lib.hid (Tok4.other (o := 0) (.int .i64 3) (show w.heap.size + 1 ≠ w.heap.size by omega) T0.out)
    have U1 := Lib.hid (Tok4.set0 (.int .i64 3) T1.out)
    have HB3 : Hid (Below w.heap.size w (w9.setCell ⟨w.heap.size + 1, 0, none⟩ (.int .i64 3))) := Lib.hid (bs HB2.out (by simp))
    go_loopw [7] (fun s7 wx => ∃ p : Nat, s7 = .int .i64 (p : Nat) ∧ j ≤ p ∧ p ≤ P ∧ Hid (Tok4 wx w.heap.size (.int .i64 0) (.string ⟨#[]⟩) (.int .i64 0) (.int .i64 0)) ∧ Hid (Tok4 wx (w.heap.size + 1) (.int .i64 3) (.string ⟨#[]⟩) (.int .i64 (j : Nat)) (.int .i64 0)) ∧ Hid (Below w.heap.size w wx)) (fun s7 _ => P - (intOf s7).toNat)
    case atStart => exact ⟨j, rfl, Nat.le_refl _, hP, U0, U1, HB3⟩
    case round =>
      obtain ⟨p, rfl, hp1, hp2, HT0, HT1, HBW⟩ := hrel
      clear a0 a1 a2 a3 af az b0 b1 b2 b3 bf bz T0 T1 U0 U1 HB3 HB2
      have HC := Lib.hid (HDG.out p hp1 hp2)
      by_cases hlt : p < P
      · rw [decide_eq_true hlt] at HC
        clear hx g3 g3' g3n
        go_wp2_with fail
        refine (HC.out _).mono ?_
        rintro e w3 ⟨rfl, rfl⟩
        go_wp2
        go_roundw
        case rel => exact ⟨p + 1, by go_num, by omega, by omega, HT0, HT1, HBW⟩
        case measure => simp [intOf]; omega
      · rw [decide_eq_false hlt] at HC
        have hpP : p = P := by omega
        subst hpP
        clear HDG hlt hp1 hp2
        go_wp2_with fail
        refine (HC.out _).mono ?_
        rintro e w3 ⟨rfl, rfl⟩
        go_wp2_with fail
        refine (HAT.out _).mono ?_
        rintro e w4 ⟨rfl, rfl⟩
        go_wp2_with fail
        refine (HNE.out _).mono ?_
        rintro e w6 ⟨rfl, hb6⟩
        have HB6 : Hid (Below w.heap.size w w6) := Lib.hid (bt HBW.out hb6)
        have V0 := Lib.hid (HT0.out.below hb6)
        have V1 := Lib.hid (HT1.out.below hb6)
        clear hb6
        obtain ⟨a0, a1, a2, a3, af, az⟩ := V0.out
        obtain ⟨b0, b1, b2, b3, bf, bz⟩ := V1.out
        go_wp2
        refine bodyPost_ret (v := Zero4) ?_ rfl ⟨rfl, ?_⟩
        · unfold Zero4
          simp [results, Tryz.results9, go_sem, *]
        · have hbz := HB6.out
          repeat (with_reducible (first | assumption | exact ba (Below.refl _ _) | (refine bs ?_ (by simp))))
  | false =>
    have h46b := h46 rfl
    have HD2 := HD1 rfl
    clear h46 HD1
    go_enter Tryz.func9, Tryz.ntmps9
    go_wp2_with fail
    refine (HSK.out _).mono ?_
    rintro e w1 ⟨rfl, rfl⟩
    go_wp2_with fail
    refine (HNM.out _).mono ?_
    rintro e w2 ⟨rfl, hb2⟩
    have HB2 : Hid (Below w.heap.size w w2) := Lib.hid (bt (ba (ba (Below.refl _ _))) hb2)
    have T0 : Hid (Tok4 w2 w.heap.size (.int .i64 0) (.string ⟨#[]⟩) (.int .i64 0) (.int .i64 0)) := Lib.hid (Tok4.below ⟨by simp, by simp, by simp, by simp, fun o => by simp, by simp <;> omega⟩ hb2)
    have T1 : Hid (Tok4 w2 (w.heap.size + 1) (.int .i64 0) (.string ⟨#[]⟩) (.int .i64 (j : Nat)) (.int .i64 0)) := Lib.hid (Tok4.below ⟨by simp, by simp, by simp, by simp, fun o => by simp, by simp <;> omega⟩ hb2)
    clear hb2
    obtain ⟨a0, a1, a2, a3, af, az⟩ := T0.out
    obtain ⟨b0, b1, b2, b3, bf, bz⟩ := T1.out
    go_wp2_with fail
    refine (HD0.out _).mono ?_
    rintro e w8 ⟨rfl, rfl⟩
    go_wp2_with fail
    refine (HD2.out _).mono ?_
    rintro e w9 ⟨rfl, rfl⟩
    go_wp2
    have U0 := Lib.hid (Tok4.other (o := 0) (.int .i64 3) (show w.heap.size + 1 ≠ w.heap.size by omega) T0.out)
    have U1 := Lib.hid (Tok4.set0 (.int .i64 3) T1.out)
    have HB3 : Hid (Below w.heap.size w (w9.setCell ⟨w.heap.size + 1, 0, none⟩ (.int .i64 3))) := Lib.hid (bs HB2.out (by simp))
    go_loopw [7] (fun s7 wx => ∃ p : Nat, s7 = .int .i64 (p : Nat) ∧ j ≤ p ∧ p ≤ P ∧ Hid (Tok4 wx w.heap.size (.int .i64 0) (.string ⟨#[]⟩) (.int .i64 0) (.int .i64 0)) ∧ Hid (Tok4 wx (w.heap.size + 1) (.int .i64 3) (.string ⟨#[]⟩) (.int .i64 (j : Nat)) (.int .i64 0)) ∧ Hid (Below w.heap.size w wx)) (fun s7 _ => P - (intOf s7).toNat)
    case atStart => exact ⟨j, rfl, Nat.le_refl _, hP, U0, U1, HB3⟩
    case round =>
      obtain ⟨p, rfl, hp1, hp2, HT0, HT1, HBW⟩ := hrel
      clear a0 a1 a2 a3 af az b0 b1 b2 b3 bf bz T0 T1 U0 U1 HB3 HB2
      have HC := Lib.hid (HDG.out p hp1 hp2)
      by_cases hlt : p < P
      · rw [decide_eq_true hlt] at HC
        clear hx g3 g3' g3n
        go_wp2_with fail
        refine (HC.out _).mono ?_
        rintro e w3 ⟨rfl, rfl⟩
        go_wp2
        go_roundw
        case rel => exact ⟨p + 1, by go_num, by omega, by omega, HT0, HT1, HBW⟩
        case measure => simp [intOf]; omega
      · rw [decide_eq_false hlt] at HC
        have hpP : p = P := by omega
        subst hpP
        clear HDG hlt hp1 hp2
        go_wp2_with fail
        refine (HC.out _).mono ?_
        rintro e w3 ⟨rfl, rfl⟩
        go_wp2_with fail
        refine (HAT.out _).mono ?_
        rintro e w4 ⟨rfl, rfl⟩
        go_wp2_with fail
        refine (HNE.out _).mono ?_
        rintro e w6 ⟨rfl, hb6⟩
        have HB6 : Hid (Below w.heap.size w w6) := Lib.hid (bt HBW.out hb6)
        have V0 := Lib.hid (HT0.out.below hb6)
        have V1 := Lib.hid (HT1.out.below hb6)
        clear hb6
        obtain ⟨a0, a1, a2, a3, af, az⟩ := V0.out
        obtain ⟨b0, b1, b2, b3, bf, bz⟩ := V1.out
        go_wp2
        refine bodyPost_ret (v := Zero4) ?_ rfl ⟨rfl, ?_⟩
        · unfold Zero4
          simp [results, Tryz.results9, go_sem, *]
        · have hbz := HB6.out
          repeat (with_reducible (first | assumption | exact ba (Below.refl _ _) | (refine bs ?_ (by simp))))
theorem nx_numD (s : List UInt8) (i j : Nat) (hs : s.length ≤ 65536) (hj : j < s.length) (w : World) (HSK : Hid (∀ W, Calls Tryz.prog 15 #[.string (ba' s), .int .i64 (i : Nat)] W fun e w' => e = .returned (.int .i64 (j : Nat)) ∧ w' = W))
    (c : UInt8) (hc : s[j]'hj = c) (h36 : ((c.toNat : Int) == 36) = false) (h34 : ((c.toNat : Int) == 34) = false) (h39 : ((c.toNat : Int) == 39) = false) (HNM : Hid (Place 16 s j j)) (d0 : Bool) (HD0 : Hid (Tells 19 #[.string (ba' s), .int .i64 (j : Nat)] d0)) (h46 : d0 = false → ((c.toNat : Int) == 46) = true) (HD1 : d0 = false → Hid (Tells 19 #[.string (ba' s), .int .i64 ((j : Int) + 1)] true)) (P : Nat) (hP : j ≤ P) (hPl : P ≤ s.length) (HDG : Hid (∀ p : Nat, j ≤ p → p ≤ P → Tells 19 #[.string (ba' s), .int .i64 (p : Nat)] (decide (p < P)))) (HAT : Hid (Tells 17 #[.string (ba' s), .int .i64 (P : Nat), .string ⟨#[46]⟩] true)) (Q : Nat) (hQ : P + 1 ≤ Q) (hQl : Q ≤ s.length) (HDG2 : Hid (∀ p : Nat, P + 1 ≤ p → p ≤ Q → Tells 19 #[.string (ba' s), .int .i64 (p : Nat)] (decide (p < Q)))) (F : Nat) (hF : Hid (Q = F)) (HNE : Hid (Place 16 s Q F)) (x : List UInt8) (hx : (ba' s).extract j Q = ba' x) :
    Calls Tryz.prog 9 #[.string (ba' s), .int .i64 (i : Nat)] w fun e w' => e = .returned (Say4 4 (ba' x) (j : Int) (Q : Int)) ∧ Below w.heap.size w w' := by
  have s1 : (ba' s).size = s.length := size_ba s
  have k0 : decide ((j : Int) < 0) = false := by simp
  have gE : ((j : Int) == (s.length : Int)) = false := by rw [beq_eq_false_iff_ne]; omega
  have gE' : (j == s.length) = false := by rw [beq_eq_false_iff_ne]; omega
  have g0 : decide ((j : Int) < (j : Int)) = false := by simp
  have g0' : decide ((j : Int) > (j : Int)) = false := by simp
  have hj' : j < (ba' s).size := by omega
  have ec : (ba' s)[j]'hj' = c := hc
  have g3 : decide ((Q : Int) < (F : Int)) = false := by have := hF.out; simp; omega
  have g3' : decide ((F : Int) > (Q : Int)) = false := by have := hF.out; simp; omega
  have g3n : decide (Q < F) = false := by have := hF.out; simp; omega
  cases d0 with
  | true =>
    clear h46 HD1
    go_enter Tryz.func9, Tryz.ntmps9
    go_wp2_with fail
    refine (HSK.out _).mono ?_
    rintro e w1 ⟨rfl, rfl⟩
    go_wp2_with fail
    refine (HNM.out _).mono ?_
    rintro e w2 ⟨rfl, hb2⟩
    have HB2 : Hid (Below w.heap.size w w2) := Lib.hid (bt (ba (ba (Below.refl _ _))) hb2)
    have T0 : Hid (Tok4 w2 w.heap.size (.int .i64 0) (.string ⟨#[]⟩) (.int .i64 0) (.int .i64 0)) := Lib.hid (Tok4.below ⟨by simp, by simp, by simp, by simp, fun o => by simp, by simp <;> omega⟩ hb2)
    have T1 : Hid (Tok4 w2 (w.heap.size + 1) (.int .i64 0) (.string ⟨#[]⟩) (.int .i64 (j : Nat)) (.int .i64 0)) := Lib.hid (Tok4.below ⟨by simp, by simp, by simp, by simp, fun o => by simp, by simp <;> omega⟩ hb2)
    clear hb2
    obtain ⟨a0, a1, a2, a3, af, az⟩ := T0.out
    obtain ⟨b0, b1, b2, b3, bf, bz⟩ := T1.out
    go_wp2_with fail
    refine (HD0.out _).mono ?_
    rintro e w9 ⟨rfl, rfl⟩
    go_wp2
    have U0 := Lib.hid (Tok4.other (o := 0) (.int .i64 3) (show w.heap.size + 1 ≠ w.heap.size by omega) T0.out)
    have U1 := Lib.hid (Tok4.set0 (.int .i64 3) T1.out)
    have HB3 : Hid (Below w.heap.size w (w9.setCell ⟨w.heap.size + 1, 0, none⟩ (.int .i64 3))) := Lib.hid (bs HB2.out (by simp))
    go_loopw [7] (fun s7 wx => ∃ p : Nat, s7 = .int .i64 (p : Nat) ∧ j ≤ p ∧ p ≤ P ∧ Hid (Tok4 wx w.heap.size (.int .i64 0) (.string ⟨#[]⟩) (.int .i64 0) (.int .i64 0)) ∧ Hid (Tok4 wx (w.heap.size + 1) (.int .i64 3) (.string ⟨#[]⟩) (.int .i64 (j : Nat)) (.int .i64 0)) ∧ Hid (Below w.heap.size w wx)) (fun s7 _ => P - (intOf s7).toNat)
    case atStart => exact ⟨j, rfl, Nat.le_refl _, hP, U0, U1, HB3⟩
    case round =>
      obtain ⟨p, rfl, hp1, hp2, HT0, HT1, HBW⟩ := hrel
      clear a0 a1 a2 a3 af az b0 b1 b2 b3 bf bz T0 T1 U0 U1 HB3 HB2
      have HC := Lib.hid (HDG.out p hp1 hp2)
      by_cases hlt : p < P
      · rw [decide_eq_true hlt] at HC
        clear hx g3 g3' g3n
        go_wp2_with fail
        refine (HC.out _).mono ?_
        rintro e w3 ⟨rfl, rfl⟩
        go_wp2
        go_roundw
        case rel => exact ⟨p + 1, by go_num, by omega, by omega, HT0, HT1, HBW⟩
        case measure => simp [intOf]; omega
      · rw [decide_eq_false hlt] at HC
        have hpP : p = P := by omega
        subst hpP
        clear HDG hlt hp1 hp2
        go_wp2_with fail
        refine (HC.out _).mono ?_
        rintro e w3 ⟨rfl, rfl⟩
        go_wp2_with fail
        refine (HAT.out _).mono ?_
        rintro e w4 ⟨rfl, rfl⟩
        obtain ⟨a0, a1, a2, a3, af, az⟩ := HT0.out
        obtain ⟨b0, b1, b2, b3, bf, bz⟩ := HT1.out
        go_wp2
        have U0 := Lib.hid (Tok4.other (o := 0) (.int .i64 4) (show w.heap.size + 1 ≠ w.heap.size by omega) HT0.out)
        have U1 := Lib.hid (Tok4.set0 (.int .i64 4) HT1.out)
        have HB3 : Hid (Below w.heap.size w (w4.setCell ⟨w.heap.size + 1, 0, none⟩ (.int .i64 4))) := Lib.hid (bs HBW.out (by simp))
        go_loopw [7] (fun s7 wx => ∃ p2 : Nat, s7 = .int .i64 (p2 : Nat) ∧ p + 1 ≤ p2 ∧ p2 ≤ Q ∧ Hid (Tok4 wx w.heap.size (.int .i64 0) (.string ⟨#[]⟩) (.int .i64 0) (.int .i64 0)) ∧ Hid (Tok4 wx (w.heap.size + 1) (.int .i64 4) (.string ⟨#[]⟩) (.int .i64 (j : Nat)) (.int .i64 0)) ∧ Hid (Below w.heap.size w wx)) (fun s7 _ => Q - (intOf s7).toNat)
        case atStart => exact ⟨p + 1, by first | rfl | go_num, Nat.le_refl _, hQ, U0, U1, HB3⟩
        case round =>
          obtain ⟨p2, rfl, hp1, hp2, HT3, HT4, HBX⟩ := hrel
          clear a0 a1 a2 a3 af az b0 b1 b2 b3 bf bz HT0 HT1 U0 U1 HB3 HBW
          have HC2 := Lib.hid (HDG2.out p2 hp1 hp2)
          by_cases hlt : p2 < Q
          · rw [decide_eq_true hlt] at HC2
            clear hx g3 g3' g3n
            go_wp2_with fail
            refine (HC2.out _).mono ?_
            rintro e w5 ⟨rfl, rfl⟩
            go_wp2
            go_roundw
            case rel => exact ⟨p2 + 1, by go_num, by omega, by omega, HT3, HT4, HBX⟩
            case measure => simp [intOf]; omega
          · rw [decide_eq_false hlt] at HC2
            have hpQ : p2 = Q := by omega
            subst hpQ
            clear HDG2 hlt hp1 hp2
            go_wp2_with fail
            refine (HC2.out _).mono ?_
            rintro e w5 ⟨rfl, rfl⟩
            go_wp2_with fail
            refine (HNE.out _).mono ?_
            rintro e w6 ⟨rfl, hb6⟩
            have HB6 : Hid (Below w.heap.size w w6) := Lib.hid (bt HBX.out hb6)
            have V0 := Lib.hid (HT3.out.below hb6)
            have V1 := Lib.hid (HT4.out.below hb6)
            clear hb6
            obtain ⟨a0, a1, a2, a3, af, az⟩ := V0.out
            obtain ⟨b0, b1, b2, b3, bf, bz⟩ := V1.out
            go_wp2
            refine bodyPost_ret (v := Say4 4 (ba' x) (j : Int) (p2 : Int)) ?_ rfl ⟨rfl, ?_⟩
            · unfold Say4
              simp [results, Tryz.results9, go_sem, *]
            · have hbz := HB6.out
              repeat (with_reducible (first | assumption | exact ba (Below.refl _ _) | (refine bs ?_ (by simp))))
  | false =>
    have h46b := h46 rfl
    have HD2 := HD1 rfl
    clear h46 HD1
    go_enter Tryz.func9, Tryz.ntmps9
    go_wp2_with fail
    refine (HSK.out _).mono ?_
    rintro e w1 ⟨rfl, rfl⟩
    go_wp2_with fail
    refine (HNM.out _).mono ?_
    rintro e w2 ⟨rfl, hb2⟩
    have HB2 : Hid (Below w.heap.size w w2) := Lib.hid (bt (ba (ba (Below.refl _ _))) hb2)
    have T0 : Hid (Tok4 w2 w.heap.size (.int .i64 0) (.string ⟨#[]⟩) (.int .i64 0) (.int .i64 0)) := Lib.hid (Tok4.below ⟨by simp, by simp, by simp, by simp, fun o => by simp, by simp <;> omega⟩ hb2)
    have T1 : Hid (Tok4 w2 (w.heap.size + 1) (.int .i64 0) (.string ⟨#[]⟩) (.int .i64 (j : Nat)) (.int .i64 0)) := Lib.hid (Tok4.below ⟨by simp, by simp, by simp, by simp, fun o => by simp, by simp <;> omega⟩ hb2)
    clear hb2
    obtain ⟨a0, a1, a2, a3, af, az⟩ := T0.out
    obtain ⟨b0, b1, b2, b3, bf, bz⟩ := T1.out
    go_wp2_with fail
    refine (HD0.out _).mono ?_
    rintro e w8 ⟨rfl, rfl⟩
    go_wp2_with fail
    refine (HD2.out _).mono ?_
    rintro e w9 ⟨rfl, rfl⟩
    go_wp2
    have U0 := Lib.hid (Tok4.other (o := 0) (.int .i64 3) (show w.heap.size + 1 ≠ w.heap.size by omega) T0.out)
    have U1 := Lib.hid (Tok4.set0 (.int .i64 3) T1.out)
    have HB3 : Hid (Below w.heap.size w (w9.setCell ⟨w.heap.size + 1, 0, none⟩ (.int .i64 3))) := Lib.hid (bs HB2.out (by simp))
    go_loopw [7] (fun s7 wx => ∃ p : Nat, s7 = .int .i64 (p : Nat) ∧ j ≤ p ∧ p ≤ P ∧ Hid (Tok4 wx w.heap.size (.int .i64 0) (.string ⟨#[]⟩) (.int .i64 0) (.int .i64 0)) ∧ Hid (Tok4 wx (w.heap.size + 1) (.int .i64 3) (.string ⟨#[]⟩) (.int .i64 (j : Nat)) (.int .i64 0)) ∧ Hid (Below w.heap.size w wx)) (fun s7 _ => P - (intOf s7).toNat)
    case atStart => exact ⟨j, rfl, Nat.le_refl _, hP, U0, U1, HB3⟩
    case round =>
      obtain ⟨p, rfl, hp1, hp2, HT0, HT1, HBW⟩ := hrel
      clear a0 a1 a2 a3 af az b0 b1 b2 b3 bf bz T0 T1 U0 U1 HB3 HB2
      have HC := Lib.hid (HDG.out p hp1 hp2)
      by_cases hlt : p < P
      · rw [decide_eq_true hlt] at HC
        clear hx g3 g3' g3n
        go_wp2_with fail
        refine (HC.out _).mono ?_
        rintro e w3 ⟨rfl, rfl⟩
        go_wp2
        go_roundw
        case rel => exact ⟨p + 1, by go_num, by omega, by omega, HT0, HT1, HBW⟩
        case measure => simp [intOf]; omega
      · rw [decide_eq_false hlt] at HC
        have hpP : p = P := by omega
        subst hpP
        clear HDG hlt hp1 hp2
        go_wp2_with fail
        refine (HC.out _).mono ?_
        rintro e w3 ⟨rfl, rfl⟩
        go_wp2_with fail
        refine (HAT.out _).mono ?_
        rintro e w4 ⟨rfl, rfl⟩
        obtain ⟨a0, a1, a2, a3, af, az⟩ := HT0.out
        obtain ⟨b0, b1, b2, b3, bf, bz⟩ := HT1.out
        go_wp2
        have U0 := Lib.hid (Tok4.other (o := 0) (.int .i64 4) (show w.heap.size + 1 ≠ w.heap.size by omega) HT0.out)
        have U1 := Lib.hid (Tok4.set0 (.int .i64 4) HT1.out)
        have HB3 : Hid (Below w.heap.size w (w4.setCell ⟨w.heap.size + 1, 0, none⟩ (.int .i64 4))) := Lib.hid (bs HBW.out (by simp))
        go_loopw [7] (fun s7 wx => ∃ p2 : Nat, s7 = .int .i64 (p2 : Nat) ∧ p + 1 ≤ p2 ∧ p2 ≤ Q ∧ Hid (Tok4 wx w.heap.size (.int .i64 0) (.string ⟨#[]⟩) (.int .i64 0) (.int .i64 0)) ∧ Hid (Tok4 wx (w.heap.size + 1) (.int .i64 4) (.string ⟨#[]⟩) (.int .i64 (j : Nat)) (.int .i64 0)) ∧ Hid (Below w.heap.size w wx)) (fun s7 _ => Q - (intOf s7).toNat)
        case atStart => exact ⟨p + 1, by first | rfl | go_num, Nat.le_refl _, hQ, U0, U1, HB3⟩
        case round =>
          obtain ⟨p2, rfl, hp1, hp2, HT3, HT4, HBX⟩ := hrel
          clear a0 a1 a2 a3 af az b0 b1 b2 b3 bf bz HT0 HT1 U0 U1 HB3 HBW
          have HC2 := Lib.hid (HDG2.out p2 hp1 hp2)
          by_cases hlt : p2 < Q
          · rw [decide_eq_true hlt] at HC2
            clear hx g3 g3' g3n
            go_wp2_with fail
            refine (HC2.out _).mono ?_
            rintro e w5 ⟨rfl, rfl⟩
            go_wp2
            go_roundw
            case rel => exact ⟨p2 + 1, by go_num, by omega, by omega, HT3, HT4, HBX⟩
            case measure => simp [intOf]; omega
          · rw [decide_eq_false hlt] at HC2
            have hpQ : p2 = Q := by omega
            subst hpQ
            clear HDG2 hlt hp1 hp2
            go_wp2_with fail
            refine (HC2.out _).mono ?_
            rintro e w5 ⟨rfl, rfl⟩
            go_wp2_with fail
            refine (HNE.out _).mono ?_
            rintro e w6 ⟨rfl, hb6⟩
            have HB6 : Hid (Below w.heap.size w w6) := Lib.hid (bt HBX.out hb6)
            have V0 := Lib.hid (HT3.out.below hb6)
            have V1 := Lib.hid (HT4.out.below hb6)
            clear hb6
            obtain ⟨a0, a1, a2, a3, af, az⟩ := V0.out
            obtain ⟨b0, b1, b2, b3, bf, bz⟩ := V1.out
            go_wp2
            refine bodyPost_ret (v := Say4 4 (ba' x) (j : Int) (p2 : Int)) ?_ rfl ⟨rfl, ?_⟩
            · unfold Say4
              simp [results, Tryz.results9, go_sem, *]
            · have hbz := HB6.out
              repeat (with_reducible (first | assumption | exact ba (Below.refl _ _) | (refine bs ?_ (by simp))))
theorem nx_numDx (s : List UInt8) (i j : Nat) (hs : s.length ≤ 65536) (hj : j < s.length) (w : World) (HSK : Hid (∀ W, Calls Tryz.prog 15 #[.string (ba' s), .int .i64 (i : Nat)] W fun e w' => e = .returned (.int .i64 (j : Nat)) ∧ w' = W))
    (c : UInt8) (hc : s[j]'hj = c) (h36 : ((c.toNat : Int) == 36) = false) (h34 : ((c.toNat : Int) == 34) = false) (h39 : ((c.toNat : Int) == 39) = false) (HNM : Hid (Place 16 s j j)) (d0 : Bool) (HD0 : Hid (Tells 19 #[.string (ba' s), .int .i64 (j : Nat)] d0)) (h46 : d0 = false → ((c.toNat : Int) == 46) = true) (HD1 : d0 = false → Hid (Tells 19 #[.string (ba' s), .int .i64 ((j : Int) + 1)] true)) (P : Nat) (hP : j ≤ P) (hPl : P ≤ s.length) (HDG : Hid (∀ p : Nat, j ≤ p → p ≤ P → Tells 19 #[.string (ba' s), .int .i64 (p : Nat)] (decide (p < P)))) (HAT : Hid (Tells 17 #[.string (ba' s), .int .i64 (P : Nat), .string ⟨#[46]⟩] true)) (Q : Nat) (hQ : P + 1 ≤ Q) (hQl : Q ≤ s.length) (HDG2 : Hid (∀ p : Nat, P + 1 ≤ p → p ≤ Q → Tells 19 #[.string (ba' s), .int .i64 (p : Nat)] (decide (p < Q)))) (F : Nat) (hF : Hid (Q < F)) (HNE : Hid (Place 16 s Q F)) (x : List UInt8) (hx : (ba' s).extract j Q = ba' x) :
    Calls Tryz.prog 9 #[.string (ba' s), .int .i64 (i : Nat)] w fun e w' => e = .returned (Zero4) ∧ Below w.heap.size w w' := by
  have s1 : (ba' s).size = s.length := size_ba s
  have k0 : decide ((j : Int) < 0) = false := by simp
  have gE : ((j : Int) == (s.length : Int)) = false := by rw [beq_eq_false_iff_ne]; omega
  have gE' : (j == s.length) = false := by rw [beq_eq_false_iff_ne]; omega
  have g0 : decide ((j : Int) < (j : Int)) = false := by simp
  have g0' : decide ((j : Int) > (j : Int)) = false := by simp
  have hj' : j < (ba' s).size := by omega
  have ec : (ba' s)[j]'hj' = c := hc
  have g3 : decide ((Q : Int) < (F : Int)) = true := by have := hF.out; simp; omega
  have g3' : decide ((F : Int) > (Q : Int)) = true := by have := hF.out; simp; omega
  have g3n : decide (Q < F) = true := by have := hF.out; simp; omega
  cases d0 with
  | true =>
    clear h46 HD1
    go_enter Tryz.func9, Tryz.ntmps9
    go_wp2_with fail
    refine (HSK.out _).mono ?_
    rintro e w1 ⟨rfl, rfl⟩
    go_wp2_with fail
    refine (HNM.out _).mono ?_
    rintro e w2 ⟨rfl, hb2⟩
    have HB2 : Hid (Below w.heap.size w w2) := Lib.hid (bt (ba (ba (Below.refl _ _))) hb2)
    have T0 : Hid (Tok4 w2 w.heap.size (.int .i64 0) (.string ⟨#[]⟩) (.int .i64 0) (.int .i64 0)) := Lib.hid (Tok4.below ⟨by simp, by simp, by simp, by simp, fun o => by simp, by simp <;> omega⟩ hb2)
    have T1 : Hid (Tok4 w2 (w.heap.size + 1) (.int .i64 0) (.string ⟨#[]⟩) (.int .i64 (j : Nat)) (.int .i64 0)) := Lib.hid (Tok4.below ⟨by simp, by simp, by simp, by simp, fun o => by simp, by simp <;> omega⟩ hb2)
    clear hb2
    obtain ⟨a0, a1, a2, a3, af, az⟩ := T0.out
    obtain ⟨b0, b1, b2, b3, bf, bz⟩ := T1.out
    go_wp2_with fail
    refine (HD0.out _).mono ?_
    rintro e w9 ⟨rfl, rfl⟩
    go_wp2
    have U0 := Lib.hid (Tok4.other (o := 0) (.int .i64 3) (show w.heap.size + 1 ≠ w.heap.size by omega) T0.out)
    have U1 := Lib.hid (Tok4.set0 (.int .i64 3) T1.out)
    have HB3 : Hid (Below w.heap.size w (w9.setCell ⟨w.heap.size + 1, 0, none⟩ (.int .i64 3))) := Lib.hid (bs HB2.out (by simp))
    go_loopw [7] (fun s7 wx => ∃ p : Nat, s7 = .int .i64 (p : Nat) ∧ j ≤ p ∧ p ≤ P ∧ Hid (Tok4 wx w.heap.size (.int .i64 0) (.string ⟨#[]⟩) (.int .i64 0) (.int .i64 0)) ∧ Hid (Tok4 wx (w.heap.size + 1) (.int .i64 3) (.string ⟨#[]⟩) (.int .i64 (j : Nat)) (.int .i64 0)) ∧ Hid (Below w.heap.size w wx)) (fun s7 _ => P - (intOf s7).toNat)
    case atStart => exact ⟨j, rfl, Nat.le_refl _, hP, U0, U1, HB3⟩
    case round =>
      obtain ⟨p, rfl, hp1, hp2, HT0, HT1, HBW⟩ := hrel
      clear a0 a1 a2 a3 af az b0 b1 b2 b3 bf bz T0 T1 U0 U1 HB3 HB2
      have HC := Lib.hid (HDG.out p hp1 hp2)
      by_cases hlt : p < P
      · rw [decide_eq_true hlt] at HC
        clear hx g3 g3' g3n
        go_wp2_with fail
        refine (HC.out _).mono ?_
        rintro e w3 ⟨rfl, rfl⟩
        go_wp2
        go_roundw
        case rel => exact ⟨p + 1, by go_num, by omega, by omega, HT0, HT1, HBW⟩
        case measure => simp [intOf]; omega
      · rw [decide_eq_false hlt] at HC
        have hpP : p = P := by omega
        subst hpP
        clear HDG hlt hp1 hp2
        go_wp2_with fail
        refine (HC.out _).mono ?_
        rintro e w3 ⟨rfl, rfl⟩
        go_wp2_with fail
        refine (HAT.out _).mono ?_
        rintro e w4 ⟨rfl, rfl⟩
        obtain ⟨a0, a1, a2, a3, af, az⟩ := HT0.out
        obtain ⟨b0, b1, b2, b3, bf, bz⟩ := HT1.out
        go_wp2
        have U0 := Lib.hid (Tok4.other (o := 0) (.int .i64 4) (show w.heap.size + 1 ≠ w.heap.size by omega) HT0.out)
        have U1 := Lib.hid (Tok4.set0 (.int .i64 4) HT1.out)
        have HB3 : Hid (Below w.heap.size w (w4.setCell ⟨w.heap.size + 1, 0, none⟩ (.int .i64 4))) := Lib.hid (bs HBW.out (by simp))
        go_loopw [7] (fun s7 wx => ∃ p2 : Nat, s7 = .int .i64 (p2 : Nat) ∧ p + 1 ≤ p2 ∧ p2 ≤ Q ∧ Hid (Tok4 wx w.heap.size (.int .i64 0) (.string ⟨#[]⟩) (.int .i64 0) (.int .i64 0)) ∧ Hid (Tok4 wx (w.heap.size + 1) (.int .i64 4) (.string ⟨#[]⟩) (.int .i64 (j : Nat)) (.int .i64 0)) ∧ Hid (Below w.heap.size w wx)) (fun s7 _ => Q - (intOf s7).toNat)
        case atStart => exact ⟨p + 1, by first | rfl | go_num, Nat.le_refl _, hQ, U0, U1, HB3⟩
        case round =>
          obtain ⟨p2, rfl, hp1, hp2, HT3, HT4, HBX⟩ := hrel
          clear a0 a1 a2 a3 af az b0 b1 b2 b3 bf bz HT0 HT1 U0 U1 HB3 HBW
          have HC2 := Lib.hid (HDG2.out p2 hp1 hp2)
          by_cases hlt : p2 < Q
          · rw [decide_eq_true hlt] at HC2
            clear hx g3 g3' g3n
            go_wp2_with fail
            refine (HC2.out _).mono ?_
            rintro e w5 ⟨rfl, rfl⟩
            go_wp2
            go_roundw
            case rel => exact ⟨p2 + 1, by go_num, by omega, by omega, HT3, HT4, HBX⟩
            case measure => simp [intOf]; omega
          · rw [decide_eq_false hlt] at HC2
            have hpQ : p2 = Q := by omega
            subst hpQ
            clear HDG2 hlt hp1 hp2
            go_wp2_with fail
            refine (HC2.out _).mono ?_
            rintro e w5 ⟨rfl, rfl⟩
            go_wp2_with fail
            refine (HNE.out _).mono ?_
            rintro e w6 ⟨rfl, hb6⟩
            have HB6 : Hid (Below w.heap.size w w6) := Lib.hid (bt HBX.out hb6)
            have V0 := Lib.hid (HT3.out.below hb6)
            have V1 := Lib.hid (HT4.out.below hb6)
            clear hb6
            obtain ⟨a0, a1, a2, a3, af, az⟩ := V0.out
            obtain ⟨b0, b1, b2, b3, bf, bz⟩ := V1.out
            go_wp2
            refine bodyPost_ret (v := Zero4) ?_ rfl ⟨rfl, ?_⟩
            · unfold Zero4
              simp [results, Tryz.results9, go_sem, *]
            · have hbz := HB6.out
              repeat (with_reducible (first | assumption | exact ba (Below.refl _ _) | (refine bs ?_ (by simp))))
  | false =>
    have h46b := h46 rfl
    have HD2 := HD1 rfl
    clear h46 HD1
    go_enter Tryz.func9, Tryz.ntmps9
    go_wp2_with fail
    refine (HSK.out _).mono ?_
    rintro e w1 ⟨rfl, rfl⟩
    go_wp2_with fail
    refine (HNM.out _).mono ?_
    rintro e w2 ⟨rfl, hb2⟩
    have HB2 : Hid (Below w.heap.size w w2) := Lib.hid (bt (ba (ba (Below.refl _ _))) hb2)
    have T0 : Hid (Tok4 w2 w.heap.size (.int .i64 0) (.string ⟨#[]⟩) (.int .i64 0) (.int .i64 0)) := Lib.hid (Tok4.below ⟨by simp, by simp, by simp, by simp, fun o => by simp, by simp <;> omega⟩ hb2)
    have T1 : Hid (Tok4 w2 (w.heap.size + 1) (.int .i64 0) (.string ⟨#[]⟩) (.int .i64 (j : Nat)) (.int .i64 0)) := Lib.hid (Tok4.below ⟨by simp, by simp, by simp, by simp, fun o => by simp, by simp <;> omega⟩ hb2)
    clear hb2
    obtain ⟨a0, a1, a2, a3, af, az⟩ := T0.out
    obtain ⟨b0, b1, b2, b3, bf, bz⟩ := T1.out
    go_wp2_with fail
    refine (HD0.out _).mono ?_
    rintro e w8 ⟨rfl, rfl⟩
    go_wp2_with fail
    refine (HD2.out _).mono ?_
    rintro e w9 ⟨rfl, rfl⟩
    go_wp2
    have U0 := Lib.hid (Tok4.other (o := 0) (.int .i64 3) (show w.heap.size + 1 ≠ w.heap.size by omega) T0.out)
    have U1 := Lib.hid (Tok4.set0 (.int .i64 3) T1.out)
    have HB3 : Hid (Below w.heap.size w (w9.setCell ⟨w.heap.size + 1, 0, none⟩ (.int .i64 3))) := Lib.hid (bs HB2.out (by simp))
    go_loopw [7] (fun s7 wx => ∃ p : Nat, s7 = .int .i64 (p : Nat) ∧ j ≤ p ∧ p ≤ P ∧ Hid (Tok4 wx w.heap.size (.int .i64 0) (.string ⟨#[]⟩) (.int .i64 0) (.int .i64 0)) ∧ Hid (Tok4 wx (w.heap.size + 1) (.int .i64 3) (.string ⟨#[]⟩) (.int .i64 (j : Nat)) (.int .i64 0)) ∧ Hid (Below w.heap.size w wx)) (fun s7 _ => P - (intOf s7).toNat)
    case atStart => exact ⟨j, rfl, Nat.le_refl _, hP, U0, U1, HB3⟩
    case round =>
      obtain ⟨p, rfl, hp1, hp2, HT0, HT1, HBW⟩ := hrel
      clear a0 a1 a2 a3 af az b0 b1 b2 b3 bf bz T0 T1 U0 U1 HB3 HB2
      have HC := Lib.hid (HDG.out p hp1 hp2)
      by_cases hlt : p < P
      · rw [decide_eq_true hlt] at HC
        clear hx g3 g3' g3n
        go_wp2_with fail
        refine (HC.out _).mono ?_
        rintro e w3 ⟨rfl, rfl⟩
        go_wp2
        go_roundw
        case rel => exact ⟨p + 1, by go_num, by omega, by omega, HT0, HT1, HBW⟩
        case measure => simp [intOf]; omega
      · rw [decide_eq_false hlt] at HC
        have hpP : p = P := by omega
        subst hpP
        clear HDG hlt hp1 hp2
        go_wp2_with fail
        refine (HC.out _).mono ?_
        rintro e w3 ⟨rfl, rfl⟩
        go_wp2_with fail
        refine (HAT.out _).mono ?_
        rintro e w4 ⟨rfl, rfl⟩
        obtain ⟨a0, a1, a2, a3, af, az⟩ := HT0.out
        obtain ⟨b0, b1, b2, b3, bf, bz⟩ := HT1.out
        go_wp2
        have U0 := Lib.hid (Tok4.other (o := 0) (.int .i64 4) (show w.heap.size + 1 ≠ w.heap.size by omega) HT0.out)
        have U1 := Lib.hid (Tok4.set0 (.int .i64 4) HT1.out)
        have HB3 : Hid (Below w.heap.size w (w4.setCell ⟨w.heap.size + 1, 0, none⟩ (.int .i64 4))) := Lib.hid (bs HBW.out (by simp))
        go_loopw [7] (fun s7 wx => ∃ p2 : Nat, s7 = .int .i64 (p2 : Nat) ∧ p + 1 ≤ p2 ∧ p2 ≤ Q ∧ Hid (Tok4 wx w.heap.size (.int .i64 0) (.string ⟨#[]⟩) (.int .i64 0) (.int .i64 0)) ∧ Hid (Tok4 wx (w.heap.size + 1) (.int .i64 4) (.string ⟨#[]⟩) (.int .i64 (j : Nat)) (.int .i64 0)) ∧ Hid (Below w.heap.size w wx)) (fun s7 _ => Q - (intOf s7).toNat)
        case atStart => exact ⟨p + 1, by first | rfl | go_num, Nat.le_refl _, hQ, U0, U1, HB3⟩
        case round =>
          obtain ⟨p2, rfl, hp1, hp2, HT3, HT4, HBX⟩ := hrel
          clear a0 a1 a2 a3 af az b0 b1 b2 b3 bf bz HT0 HT1 U0 U1 HB3 HBW
          have HC2 := Lib.hid (HDG2.out p2 hp1 hp2)
          by_cases hlt : p2 < Q
          · rw [decide_eq_true hlt] at HC2
            clear hx g3 g3' g3n
            go_wp2_with fail
            refine (HC2.out _).mono ?_
            rintro e w5 ⟨rfl, rfl⟩
            go_wp2
            go_roundw
            case rel => exact ⟨p2 + 1, by go_num, by omega, by omega, HT3, HT4, HBX⟩
            case measure => simp [intOf]; omega
          · rw [decide_eq_false hlt] at HC2
            have hpQ : p2 = Q := by omega
            subst hpQ
            clear HDG2 hlt hp1 hp2
            go_wp2_with fail
            refine (HC2.out _).mono ?_
            rintro e w5 ⟨rfl, rfl⟩
            go_wp2_with fail
            refine (HNE.out _).mono ?_
            rintro e w6 ⟨rfl, hb6⟩
            have HB6 : Hid (Below w.heap.size w w6) := Lib.hid (bt HBX.out hb6)
            have V0 := Lib.hid (HT3.out.below hb6)
            have V1 := Lib.hid (HT4.out.below hb6)
            clear hb6
            obtain ⟨a0, a1, a2, a3, af, az⟩ := V0.out
            obtain ⟨b0, b1, b2, b3, bf, bz⟩ := V1.out
            go_wp2
            refine bodyPost_ret (v := Zero4) ?_ rfl ⟨rfl, ?_⟩
            · unfold Zero4
              simp [results, Tryz.results9, go_sem, *]
            · have hbz := HB6.out
              repeat (with_reducible (first | assumption | exact ba (Below.refl _ _) | (refine bs ?_ (by simp))))
end Go.Proofs.YtolkfhiominjbaaGreatDoor
