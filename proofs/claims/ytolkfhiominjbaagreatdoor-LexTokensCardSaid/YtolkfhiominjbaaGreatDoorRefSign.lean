/- The reference Next where a sign stands. No condition beyond what the theorems state. -/
import Derived.Test.YtolkfhiominjbaaGreatDoorRefNext
namespace Go.Proofs.YtolkfhiominjbaaGreatDoor
open Go.RowKit Go.Lib
set_option maxRecDepth 100000
set_option maxHeartbeats 8000000
theorem nx_sign (s : List UInt8) (i j : Nat) (hs : s.length ≤ 65536) (hj : j < s.length) (w : World) (HSK : Hid (∀ W, Calls Tryz.prog 15 #[.string (ba' s), .int .i64 (i : Nat)] W fun e w' => e = .returned (.int .i64 (j : Nat)) ∧ w' = W))
    (c : UInt8) (hc : s[j]'hj = c) (h36 : ((c.toNat : Int) == 36) = false) (h34 : ((c.toNat : Int) == 34) = false) (h39 : ((c.toNat : Int) == 39) = false) (HNM : Hid (Place 16 s j j)) (HD0 : Hid (Tells 19 #[.string (ba' s), .int .i64 (j : Nat)] false)) (q : Bool) (h46 : ((c.toNat : Int) == 46) = q) (HD1 : q = true → Hid (Tells 19 #[.string (ba' s), .int .i64 ((j : Int) + 1)] false)) (sg : List UInt8) (hsg : signR (s.drop j) = sg) (V : Value) (HV0 : Hid (sg = [] → V = Zero4)) (HV1 : Hid (sg ≠ [] → V = Say4 6 (ba' sg) (j : Int) ((j + sg.length : Nat) : Int))) :
    Calls Tryz.prog 9 #[.string (ba' s), .int .i64 (i : Nat)] w fun e w' => e = .returned (V) ∧ Below w.heap.size w w' := by
  have s1 : (ba' s).size = s.length := size_ba s
  have k0 : decide ((j : Int) < 0) = false := by simp
  have gE : ((j : Int) == (s.length : Int)) = false := by rw [beq_eq_false_iff_ne]; omega
  have gE' : (j == s.length) = false := by rw [beq_eq_false_iff_ne]; omega
  have g0 : decide ((j : Int) < (j : Int)) = false := by simp
  have g0' : decide ((j : Int) > (j : Int)) = false := by simp
  have hj' : j < (ba' s).size := by omega
  have ec : (ba' s)[j]'hj' = c := hc
  have HSG : Hid (signGo (s.drop j) 0 = sg) := Lib.hid hsg
  have HSL : Hid (sg ≠ [] → j + sg.length ≤ s.length ∧ (ba' s).extract j (j + sg.length) = ba' sg) := Lib.hid fun _ => by
    have h1 : sg = signF (s.drop j) := by rw [← hsg, sign_is]
    have h2 := signF_le (s.drop j)
    have h3 := signF_take (s.drop j)
    rw [← h1, List.length_drop] at h2
    rw [← h1] at h3
    exact ⟨by omega, by rw [cut_mid, Nat.add_sub_cancel_left, h3]⟩
  have HAT : Hid (∀ k < 28, Tells 17 #[.string (ba' s), .int .i64 (j : Nat), .string (ba' (signsL.getD k []))] (Lib.hasPrefix (s.drop j) (signsL.getD k []))) := Lib.hid fun k hk W => at_any s _ j (by omega) (by omega) (by have := signs_len k hk; omega) W
  clear hsg
  cases q with
  | false =>
    clear HD1
    go_enter Tryz.func9, Tryz.ntmps9
    go_wp2_with fail
    refine (HSK.out _).mono ?_
    rintro e w1 ⟨rfl, rfl⟩
    go_wp2_with fail
    refine (HNM.out _).mono ?_
    rintro e w2 ⟨rfl, hb2⟩
    have HB2 : Hid (Below w.heap.size w w2) := Lib.hid (bt (ba (ba (Below.refl _ _))) hb2)
    have T0 : Hid (Tok4 w2 w.heap.size (.int .i64 0) (.string ⟨#[]⟩) (.int .i64 0) (.int .i64 0)) := Lib.hid (Tok4.below ⟨by simp, by simp, by simp, by simp, fun o => by simp, by simp <;> omega⟩ hb2)
    have T1 : Hid (Tok4 w2 (w.heap.size + 1) (.int .i64 0) (.string ⟨#[]⟩) (.int .i64 (j : Nat)) (.int .i64 0)) := Lib.hid (Tok4.below ⟨by simp, by simp, by simp, by simp, fun o => by simp, by simp <;> omega⟩ hb2)
    clear hb2
    obtain ⟨a0, a1, a2, a3, af, az⟩ := T0.out
    obtain ⟨b0, b1, b2, b3, bf, bz⟩ := T1.out
    go_wp2_with fail
    refine (HD0.out _).mono ?_
    rintro e w9 ⟨rfl, rfl⟩
    have HCL : Hid (∀ k < 28, (w9.alloc (.cells #[.string ⟨#[33, 61]⟩, .string ⟨#[58, 61]⟩, .string ⟨#[58, 58]⟩, .string ⟨#[46, 46]⟩, .string ⟨#[47, 47]⟩, .string ⟨#[60, 61]⟩, .string ⟨#[60, 60]⟩, .string ⟨#[62, 61]⟩, .string ⟨#[62, 62]⟩, .string ⟨#[40]⟩, .string ⟨#[41]⟩, .string ⟨#[91]⟩, .string ⟨#[93]⟩, .string ⟨#[123]⟩, .string ⟨#[125]⟩, .string ⟨#[44]⟩, .string ⟨#[59]⟩, .string ⟨#[46]⟩, .string ⟨#[47]⟩, .string ⟨#[64]⟩, .string ⟨#[42]⟩, .string ⟨#[43]⟩, .string ⟨#[45]⟩, .string ⟨#[61]⟩, .string ⟨#[60]⟩, .string ⟨#[62]⟩, .string ⟨#[124]⟩, .string ⟨#[63]⟩] 9)).cell? ⟨w9.heap.size, k, none⟩ = some (.string (ba' (signsL.getD k [])))) := Lib.hid fun k hk => (Go.Joins.cell_alloc_mark_at _ _ _ _ _ _ rfl).trans (signs_at ⟨k, hk⟩)
    have U0 := Lib.hid (T0.out.below (Below.alloc (Below.refl _ _) (Nat.le_refl _) (.cells #[.string ⟨#[33, 61]⟩, .string ⟨#[58, 61]⟩, .string ⟨#[58, 58]⟩, .string ⟨#[46, 46]⟩, .string ⟨#[47, 47]⟩, .string ⟨#[60, 61]⟩, .string ⟨#[60, 60]⟩, .string ⟨#[62, 61]⟩, .string ⟨#[62, 62]⟩, .string ⟨#[40]⟩, .string ⟨#[41]⟩, .string ⟨#[91]⟩, .string ⟨#[93]⟩, .string ⟨#[123]⟩, .string ⟨#[125]⟩, .string ⟨#[44]⟩, .string ⟨#[59]⟩, .string ⟨#[46]⟩, .string ⟨#[47]⟩, .string ⟨#[64]⟩, .string ⟨#[42]⟩, .string ⟨#[43]⟩, .string ⟨#[45]⟩, .string ⟨#[61]⟩, .string ⟨#[60]⟩, .string ⟨#[62]⟩, .string ⟨#[124]⟩, .string ⟨#[63]⟩] 9)))
    have U1 := Lib.hid (T1.out.below (Below.alloc (Below.refl _ _) (Nat.le_refl _) (.cells #[.string ⟨#[33, 61]⟩, .string ⟨#[58, 61]⟩, .string ⟨#[58, 58]⟩, .string ⟨#[46, 46]⟩, .string ⟨#[47, 47]⟩, .string ⟨#[60, 61]⟩, .string ⟨#[60, 60]⟩, .string ⟨#[62, 61]⟩, .string ⟨#[62, 62]⟩, .string ⟨#[40]⟩, .string ⟨#[41]⟩, .string ⟨#[91]⟩, .string ⟨#[93]⟩, .string ⟨#[123]⟩, .string ⟨#[125]⟩, .string ⟨#[44]⟩, .string ⟨#[59]⟩, .string ⟨#[46]⟩, .string ⟨#[47]⟩, .string ⟨#[64]⟩, .string ⟨#[42]⟩, .string ⟨#[43]⟩, .string ⟨#[45]⟩, .string ⟨#[61]⟩, .string ⟨#[60]⟩, .string ⟨#[62]⟩, .string ⟨#[124]⟩, .string ⟨#[63]⟩] 9)))
    have HB3 : Hid (Below w.heap.size w (w9.alloc (.cells #[.string ⟨#[33, 61]⟩, .string ⟨#[58, 61]⟩, .string ⟨#[58, 58]⟩, .string ⟨#[46, 46]⟩, .string ⟨#[47, 47]⟩, .string ⟨#[60, 61]⟩, .string ⟨#[60, 60]⟩, .string ⟨#[62, 61]⟩, .string ⟨#[62, 62]⟩, .string ⟨#[40]⟩, .string ⟨#[41]⟩, .string ⟨#[91]⟩, .string ⟨#[93]⟩, .string ⟨#[123]⟩, .string ⟨#[125]⟩, .string ⟨#[44]⟩, .string ⟨#[59]⟩, .string ⟨#[46]⟩, .string ⟨#[47]⟩, .string ⟨#[64]⟩, .string ⟨#[42]⟩, .string ⟨#[43]⟩, .string ⟨#[45]⟩, .string ⟨#[61]⟩, .string ⟨#[60]⟩, .string ⟨#[62]⟩, .string ⟨#[124]⟩, .string ⟨#[63]⟩] 9))) := Lib.hid (ba HB2.out)
    have HZ : Hid (w.heap.size + 1 < w9.heap.size) := Lib.hid bz
    have hz3 : w9.heap.size < (w9.alloc (.cells #[.string ⟨#[33, 61]⟩, .string ⟨#[58, 61]⟩, .string ⟨#[58, 58]⟩, .string ⟨#[46, 46]⟩, .string ⟨#[47, 47]⟩, .string ⟨#[60, 61]⟩, .string ⟨#[60, 60]⟩, .string ⟨#[62, 61]⟩, .string ⟨#[62, 62]⟩, .string ⟨#[40]⟩, .string ⟨#[41]⟩, .string ⟨#[91]⟩, .string ⟨#[93]⟩, .string ⟨#[123]⟩, .string ⟨#[125]⟩, .string ⟨#[44]⟩, .string ⟨#[59]⟩, .string ⟨#[46]⟩, .string ⟨#[47]⟩, .string ⟨#[64]⟩, .string ⟨#[42]⟩, .string ⟨#[43]⟩, .string ⟨#[45]⟩, .string ⟨#[61]⟩, .string ⟨#[60]⟩, .string ⟨#[62]⟩, .string ⟨#[124]⟩, .string ⟨#[63]⟩] 9)).heap.size := by simp
    go_wp2
    obtain ⟨W3, hW3⟩ : ∃ W3, w9.alloc (.cells #[.string ⟨#[33, 61]⟩, .string ⟨#[58, 61]⟩, .string ⟨#[58, 58]⟩, .string ⟨#[46, 46]⟩, .string ⟨#[47, 47]⟩, .string ⟨#[60, 61]⟩, .string ⟨#[60, 60]⟩, .string ⟨#[62, 61]⟩, .string ⟨#[62, 62]⟩, .string ⟨#[40]⟩, .string ⟨#[41]⟩, .string ⟨#[91]⟩, .string ⟨#[93]⟩, .string ⟨#[123]⟩, .string ⟨#[125]⟩, .string ⟨#[44]⟩, .string ⟨#[59]⟩, .string ⟨#[46]⟩, .string ⟨#[47]⟩, .string ⟨#[64]⟩, .string ⟨#[42]⟩, .string ⟨#[43]⟩, .string ⟨#[45]⟩, .string ⟨#[61]⟩, .string ⟨#[60]⟩, .string ⟨#[62]⟩, .string ⟨#[124]⟩, .string ⟨#[63]⟩] 9) = W3 := ⟨_, rfl⟩
    rw [hW3] at HCL U0 U1 HB3 hz3
    rw [hW3]
    clear hW3 a0 a1 a2 a3 af az b0 b1 b2 b3 bf bz T0 T1 HB2
    go_loopw [7, 12] (fun s7 s12 wx => ∃ (E k : Nat), s7 = .int .i64 (E : Nat) ∧ s12 = .int .i64 (k : Nat) ∧ k ≤ 28 ∧ j ≤ E ∧ Hid ((E = j → signGo (s.drop j) k = sg) ∧ (E ≠ j → j + sg.length = E)) ∧ wx = W3) (fun _ s12 _ => 28 - (intOf s12).toNat)
    case atStart => exact ⟨j, 0, rfl, rfl, by omega, Nat.le_refl _, Lib.hid ⟨fun _ => HSG.out, fun h => absurd rfl h⟩, rfl⟩
    case round =>
      obtain ⟨E, k, rfl, rfl, hk, hjE, HQ, hwx⟩ := hrel
      obtain rfl := hwx.symm
      clear hwx
      by_cases hE : E = j
      · have HQ0 := Lib.hid (HQ.out.1 hE)
        have gn : ((E : Int) == (j : Int)) = true := by rw [beq_iff_eq]; omega
        have gn' : (E == j) = true := by rw [beq_iff_eq]; omega
        clear HQ
        by_cases hk28 : k < 28
        · have r1 : decide ((k : Int) < 28) = true := by simp; omega
          have r1' : decide (k < 28) = true := by simpa using hk28
          have hcl := HCL.out k hk28
          have ha := HAT.out k hk28
          have hst := HQ0.out
          rw [signGo_step _ k hk28] at hst
          obtain ⟨hp1, hp2⟩ := signs_len k hk28
          obtain ⟨P, hP⟩ : ∃ P, signsL.getD k [] = P := ⟨_, rfl⟩
          rw [hP] at hcl ha hst hp1 hp2
          obtain ⟨b, hb⟩ : ∃ b, Lib.hasPrefix (s.drop j) P = b := ⟨_, rfl⟩
          rw [hb] at ha hst
          have HA := Lib.hid ha
          have sP : (ba' P).size = P.length := size_ba P
          clear hP hb ha
          cases b with
          | true =>
            have HN : Hid (P = sg) := Lib.hid (by rwa [if_pos rfl] at hst)
            clear hst HQ0 hE
            go_wp2_with fail
            refine (HA.out _).mono ?_
            rintro e w7 ⟨rfl, rfl⟩
            go_wp2
            go_roundw
            case rel => exact ⟨j + P.length, k + 1, by first | rfl | go_num, by go_num, by omega, by omega, Lib.hid ⟨fun h => by omega, fun _ => by rw [HN.out]⟩, trivial⟩
            case measure => simp [intOf]; omega
          | false =>
            have HN : Hid (signGo (s.drop j) (k + 1) = sg) := Lib.hid (by rwa [if_neg (by decide)] at hst)
            clear hst HQ0
            have HE := Lib.hid hE
            clear hE
            go_wp2_with fail
            refine (HA.out _).mono ?_
            rintro e w7 ⟨rfl, rfl⟩
            go_wp2
            go_roundw
            case rel => exact ⟨E, k + 1, rfl, by go_num, by omega, hjE, Lib.hid ⟨fun _ => HN.out, fun h => absurd HE.out h⟩, trivial⟩
            case measure => simp [intOf]; omega
        · have r1 : decide ((k : Int) < 28) = false := by simp; omega
          have r1' : decide (k < 28) = false := by simpa using hk28
          have hs0 : sg = [] := by
            have h := HQ0.out
            obtain rfl : k = 28 := by omega
            rw [← h]
            rfl
          have HVV := Lib.hid (HV0.out hs0)
          clear HQ0 hs0 hE
          obtain ⟨a0, a1, a2, a3, af, az⟩ := U0.out
          obtain ⟨b0, b1, b2, b3, bf, bz⟩ := U1.out
          go_wp2
          refine bodyPost_ret (v := Zero4) ?_ rfl ⟨by rw [HVV.out], ?_⟩
          · unfold Zero4
            simp [results, Tryz.results9, go_sem, *]
          · have hbz := HB3.out
            repeat (with_reducible (first | assumption | exact ba (Below.refl _ _) | (refine bs ?_ (by simp))))
      · have hsl := HQ.out.2 hE
        have hne : sg ≠ [] := by
          intro e
          rw [e] at hsl
          simp only [List.length_nil] at hsl
          omega
        obtain ⟨hl1, hl2⟩ := HSL.out hne
        rw [hsl] at hl1 hl2
        have HVV := Lib.hid (HV1.out hne)
        rw [hsl] at HVV
        have gn : ((E : Int) == (j : Int)) = false := by rw [beq_eq_false_iff_ne]; omega
        have gn' : (E == j) = false := by rw [beq_eq_false_iff_ne]; omega
        clear HQ hsl hne
        obtain ⟨a0, a1, a2, a3, af, az⟩ := U0.out
        obtain ⟨b0, b1, b2, b3, bf, bz⟩ := U1.out
        by_cases hk28 : k < 28
        · have r1 : decide ((k : Int) < 28) = true := by simp; omega
          have r1' : decide (k < 28) = true := by simpa using hk28
          go_wp2
          refine bodyPost_ret (v := Say4 6 (ba' sg) (j : Int) (E : Int)) ?_ rfl ⟨by rw [HVV.out], ?_⟩
          · unfold Say4
            simp [results, Tryz.results9, go_sem, *]
          · have hbz := HB3.out
            repeat (with_reducible (first | assumption | exact ba (Below.refl _ _) | (refine bs ?_ (by simp))))
        · have r1 : decide ((k : Int) < 28) = false := by simp; omega
          have r1' : decide (k < 28) = false := by simpa using hk28
          go_wp2
          refine bodyPost_ret (v := Say4 6 (ba' sg) (j : Int) (E : Int)) ?_ rfl ⟨by rw [HVV.out], ?_⟩
          · unfold Say4
            simp [results, Tryz.results9, go_sem, *]
          · have hbz := HB3.out
            repeat (with_reducible (first | assumption | exact ba (Below.refl _ _) | (refine bs ?_ (by simp))))
  | true =>
    have HD2 := HD1 rfl
    clear HD1
    go_enter Tryz.func9, Tryz.ntmps9
    go_wp2_with fail
    refine (HSK.out _).mono ?_
    rintro e w1 ⟨rfl, rfl⟩
    go_wp2_with fail
    refine (HNM.out _).mono ?_
    rintro e w2 ⟨rfl, hb2⟩
    have HB2 : Hid (Below w.heap.size w w2) := Lib.hid (bt (ba (ba (Below.refl _ _))) hb2)
    have T0 : Hid (Tok4 w2 w.heap.size (.int .i64 0) (.string ⟨#[]⟩) (.int .i64 0) (.int .i64 0)) := Lib.hid (Tok4.below ⟨by simp, by simp, by simp, by simp, fun o => by simp, by simp <;> omega⟩ hb2)
    have T1 : Hid (Tok4 w2 (w.heap.size + 1) (.int .i64 0) (.string ⟨#[]⟩) (.int .i64 (j : Nat)) (.int .i64 0)) := Lib.hid (Tok4.below ⟨by simp, by simp, by simp, by simp, fun o => by simp, by simp <;> omega⟩ hb2)
    clear hb2
    obtain ⟨a0, a1, a2, a3, af, az⟩ := T0.out
    obtain ⟨b0, b1, b2, b3, bf, bz⟩ := T1.out
    go_wp2_with fail
    refine (HD0.out _).mono ?_
    rintro e w8 ⟨rfl, rfl⟩
    go_wp2_with fail
    refine (HD2.out _).mono ?_
    rintro e w9 ⟨rfl, rfl⟩
    have HCL : Hid (∀ k < 28, (w9.alloc (.cells #[.string ⟨#[33, 61]⟩, .string ⟨#[58, 61]⟩, .string ⟨#[58, 58]⟩, .string ⟨#[46, 46]⟩, .string ⟨#[47, 47]⟩, .string ⟨#[60, 61]⟩, .string ⟨#[60, 60]⟩, .string ⟨#[62, 61]⟩, .string ⟨#[62, 62]⟩, .string ⟨#[40]⟩, .string ⟨#[41]⟩, .string ⟨#[91]⟩, .string ⟨#[93]⟩, .string ⟨#[123]⟩, .string ⟨#[125]⟩, .string ⟨#[44]⟩, .string ⟨#[59]⟩, .string ⟨#[46]⟩, .string ⟨#[47]⟩, .string ⟨#[64]⟩, .string ⟨#[42]⟩, .string ⟨#[43]⟩, .string ⟨#[45]⟩, .string ⟨#[61]⟩, .string ⟨#[60]⟩, .string ⟨#[62]⟩, .string ⟨#[124]⟩, .string ⟨#[63]⟩] 9)).cell? ⟨w9.heap.size, k, none⟩ = some (.string (ba' (signsL.getD k [])))) := Lib.hid fun k hk => (Go.Joins.cell_alloc_mark_at _ _ _ _ _ _ rfl).trans (signs_at ⟨k, hk⟩)
    have U0 := Lib.hid (T0.out.below (Below.alloc (Below.refl _ _) (Nat.le_refl _) (.cells #[.string ⟨#[33, 61]⟩, .string ⟨#[58, 61]⟩, .string ⟨#[58, 58]⟩, .string ⟨#[46, 46]⟩, .string ⟨#[47, 47]⟩, .string ⟨#[60, 61]⟩, .string ⟨#[60, 60]⟩, .string ⟨#[62, 61]⟩, .string ⟨#[62, 62]⟩, .string ⟨#[40]⟩, .string ⟨#[41]⟩, .string ⟨#[91]⟩, .string ⟨#[93]⟩, .string ⟨#[123]⟩, .string ⟨#[125]⟩, .string ⟨#[44]⟩, .string ⟨#[59]⟩, .string ⟨#[46]⟩, .string ⟨#[47]⟩, .string ⟨#[64]⟩, .string ⟨#[42]⟩, .string ⟨#[43]⟩, .string ⟨#[45]⟩, .string ⟨#[61]⟩, .string ⟨#[60]⟩, .string ⟨#[62]⟩, .string ⟨#[124]⟩, .string ⟨#[63]⟩] 9)))
    have U1 := Lib.hid (T1.out.below (Below.alloc (Below.refl _ _) (Nat.le_refl _) (.cells #[.string ⟨#[33, 61]⟩, .string ⟨#[58, 61]⟩, .string ⟨#[58, 58]⟩, .string ⟨#[46, 46]⟩, .string ⟨#[47, 47]⟩, .string ⟨#[60, 61]⟩, .string ⟨#[60, 60]⟩, .string ⟨#[62, 61]⟩, .string ⟨#[62, 62]⟩, .string ⟨#[40]⟩, .string ⟨#[41]⟩, .string ⟨#[91]⟩, .string ⟨#[93]⟩, .string ⟨#[123]⟩, .string ⟨#[125]⟩, .string ⟨#[44]⟩, .string ⟨#[59]⟩, .string ⟨#[46]⟩, .string ⟨#[47]⟩, .string ⟨#[64]⟩, .string ⟨#[42]⟩, .string ⟨#[43]⟩, .string ⟨#[45]⟩, .string ⟨#[61]⟩, .string ⟨#[60]⟩, .string ⟨#[62]⟩, .string ⟨#[124]⟩, .string ⟨#[63]⟩] 9)))
    have HB3 : Hid (Below w.heap.size w (w9.alloc (.cells #[.string ⟨#[33, 61]⟩, .string ⟨#[58, 61]⟩, .string ⟨#[58, 58]⟩, .string ⟨#[46, 46]⟩, .string ⟨#[47, 47]⟩, .string ⟨#[60, 61]⟩, .string ⟨#[60, 60]⟩, .string ⟨#[62, 61]⟩, .string ⟨#[62, 62]⟩, .string ⟨#[40]⟩, .string ⟨#[41]⟩, .string ⟨#[91]⟩, .string ⟨#[93]⟩, .string ⟨#[123]⟩, .string ⟨#[125]⟩, .string ⟨#[44]⟩, .string ⟨#[59]⟩, .string ⟨#[46]⟩, .string ⟨#[47]⟩, .string ⟨#[64]⟩, .string ⟨#[42]⟩, .string ⟨#[43]⟩, .string ⟨#[45]⟩, .string ⟨#[61]⟩, .string ⟨#[60]⟩, .string ⟨#[62]⟩, .string ⟨#[124]⟩, .string ⟨#[63]⟩] 9))) := Lib.hid (ba HB2.out)
    have HZ : Hid (w.heap.size + 1 < w9.heap.size) := Lib.hid bz
    have hz3 : w9.heap.size < (w9.alloc (.cells #[.string ⟨#[33, 61]⟩, .string ⟨#[58, 61]⟩, .string ⟨#[58, 58]⟩, .string ⟨#[46, 46]⟩, .string ⟨#[47, 47]⟩, .string ⟨#[60, 61]⟩, .string ⟨#[60, 60]⟩, .string ⟨#[62, 61]⟩, .string ⟨#[62, 62]⟩, .string ⟨#[40]⟩, .string ⟨#[41]⟩, .string ⟨#[91]⟩, .string ⟨#[93]⟩, .string ⟨#[123]⟩, .string ⟨#[125]⟩, .string ⟨#[44]⟩, .string ⟨#[59]⟩, .string ⟨#[46]⟩, .string ⟨#[47]⟩, .string ⟨#[64]⟩, .string ⟨#[42]⟩, .string ⟨#[43]⟩, .string ⟨#[45]⟩, .string ⟨#[61]⟩, .string ⟨#[60]⟩, .string ⟨#[62]⟩, .string ⟨#[124]⟩, .string ⟨#[63]⟩] 9)).heap.size := by simp
    go_wp2
    obtain ⟨W3, hW3⟩ : ∃ W3, w9.alloc (.cells #[.string ⟨#[33, 61]⟩, .string ⟨#[58, 61]⟩, .string ⟨#[58, 58]⟩, .string ⟨#[46, 46]⟩, .string ⟨#[47, 47]⟩, .string ⟨#[60, 61]⟩, .string ⟨#[60, 60]⟩, .string ⟨#[62, 61]⟩, .string ⟨#[62, 62]⟩, .string ⟨#[40]⟩, .string ⟨#[41]⟩, .string ⟨#[91]⟩, .string ⟨#[93]⟩, .string ⟨#[123]⟩, .string ⟨#[125]⟩, .string ⟨#[44]⟩, .string ⟨#[59]⟩, .string ⟨#[46]⟩, .string ⟨#[47]⟩, .string ⟨#[64]⟩, .string ⟨#[42]⟩, .string ⟨#[43]⟩, .string ⟨#[45]⟩, .string ⟨#[61]⟩, .string ⟨#[60]⟩, .string ⟨#[62]⟩, .string ⟨#[124]⟩, .string ⟨#[63]⟩] 9) = W3 := ⟨_, rfl⟩
    rw [hW3] at HCL U0 U1 HB3 hz3
    rw [hW3]
    clear hW3 a0 a1 a2 a3 af az b0 b1 b2 b3 bf bz T0 T1 HB2
    go_loopw [7, 12] (fun s7 s12 wx => ∃ (E k : Nat), s7 = .int .i64 (E : Nat) ∧ s12 = .int .i64 (k : Nat) ∧ k ≤ 28 ∧ j ≤ E ∧ Hid ((E = j → signGo (s.drop j) k = sg) ∧ (E ≠ j → j + sg.length = E)) ∧ wx = W3) (fun _ s12 _ => 28 - (intOf s12).toNat)
    case atStart => exact ⟨j, 0, rfl, rfl, by omega, Nat.le_refl _, Lib.hid ⟨fun _ => HSG.out, fun h => absurd rfl h⟩, rfl⟩
    case round =>
      obtain ⟨E, k, rfl, rfl, hk, hjE, HQ, hwx⟩ := hrel
      obtain rfl := hwx.symm
      clear hwx
      by_cases hE : E = j
      · have HQ0 := Lib.hid (HQ.out.1 hE)
        have gn : ((E : Int) == (j : Int)) = true := by rw [beq_iff_eq]; omega
        have gn' : (E == j) = true := by rw [beq_iff_eq]; omega
        clear HQ
        by_cases hk28 : k < 28
        · have r1 : decide ((k : Int) < 28) = true := by simp; omega
          have r1' : decide (k < 28) = true := by simpa using hk28
          have hcl := HCL.out k hk28
          have ha := HAT.out k hk28
          have hst := HQ0.out
          rw [signGo_step _ k hk28] at hst
          obtain ⟨hp1, hp2⟩ := signs_len k hk28
          obtain ⟨P, hP⟩ : ∃ P, signsL.getD k [] = P := ⟨_, rfl⟩
          rw [hP] at hcl ha hst hp1 hp2
          obtain ⟨b, hb⟩ : ∃ b, Lib.hasPrefix (s.drop j) P = b := ⟨_, rfl⟩
          rw [hb] at ha hst
          have HA := Lib.hid ha
          have sP : (ba' P).size = P.length := size_ba P
          clear hP hb ha
          cases b with
          | true =>
            have HN : Hid (P = sg) := Lib.hid (by rwa [if_pos rfl] at hst)
            clear hst HQ0 hE
            go_wp2_with fail
            refine (HA.out _).mono ?_
            rintro e w7 ⟨rfl, rfl⟩
            go_wp2
            go_roundw
            case rel => exact ⟨j + P.length, k + 1, by first | rfl | go_num, by go_num, by omega, by omega, Lib.hid ⟨fun h => by omega, fun _ => by rw [HN.out]⟩, trivial⟩
            case measure => simp [intOf]; omega
          | false =>
            have HN : Hid (signGo (s.drop j) (k + 1) = sg) := Lib.hid (by rwa [if_neg (by decide)] at hst)
            clear hst HQ0
            have HE := Lib.hid hE
            clear hE
            go_wp2_with fail
            refine (HA.out _).mono ?_
            rintro e w7 ⟨rfl, rfl⟩
            go_wp2
            go_roundw
            case rel => exact ⟨E, k + 1, rfl, by go_num, by omega, hjE, Lib.hid ⟨fun _ => HN.out, fun h => absurd HE.out h⟩, trivial⟩
            case measure => simp [intOf]; omega
        · have r1 : decide ((k : Int) < 28) = false := by simp; omega
          have r1' : decide (k < 28) = false := by simpa using hk28
          have hs0 : sg = [] := by
            have h := HQ0.out
            obtain rfl : k = 28 := by omega
            rw [← h]
            rfl
          have HVV := Lib.hid (HV0.out hs0)
          clear HQ0 hs0 hE
          obtain ⟨a0, a1, a2, a3, af, az⟩ := U0.out
          obtain ⟨b0, b1, b2, b3, bf, bz⟩ := U1.out
          go_wp2
          refine bodyPost_ret (v := Zero4) ?_ rfl ⟨by rw [HVV.out], ?_⟩
          · unfold Zero4
            simp [results, Tryz.results9, go_sem, *]
          · have hbz := HB3.out
            repeat (with_reducible (first | assumption | exact ba (Below.refl _ _) | (refine bs ?_ (by simp))))
      · have hsl := HQ.out.2 hE
        have hne : sg ≠ [] := by
          intro e
          rw [e] at hsl
          simp only [List.length_nil] at hsl
          omega
        obtain ⟨hl1, hl2⟩ := HSL.out hne
        rw [hsl] at hl1 hl2
        have HVV := Lib.hid (HV1.out hne)
        rw [hsl] at HVV
        have gn : ((E : Int) == (j : Int)) = false := by rw [beq_eq_false_iff_ne]; omega
        have gn' : (E == j) = false := by rw [beq_eq_false_iff_ne]; omega
        clear HQ hsl hne
        obtain ⟨a0, a1, a2, a3, af, az⟩ := U0.out
        obtain ⟨b0, b1, b2, b3, bf, bz⟩ := U1.out
        by_cases hk28 : k < 28
        · have r1 : decide ((k : Int) < 28) = true := by simp; omega
          have r1' : decide (k < 28) = true := by simpa using hk28
          go_wp2
          refine bodyPost_ret (v := Say4 6 (ba' sg) (j : Int) (E : Int)) ?_ rfl ⟨by rw [HVV.out], ?_⟩
          · unfold Say4
            simp [results, Tryz.results9, go_sem, *]
          · have hbz := HB3.out
            repeat (with_reducible (first | assumption | exact ba (Below.refl _ _) | (refine bs ?_ (by simp))))
        · have r1 : decide ((k : Int) < 28) = false := by simp; omega
          have r1' : decide (k < 28) = false := by simpa using hk28
          go_wp2
          refine bodyPost_ret (v := Say4 6 (ba' sg) (j : Int) (E : Int)) ?_ rfl ⟨by rw [HVV.out], ?_⟩
          · unfold Say4
            simp [results, Tryz.results9, go_sem, *]
          · have hbz := HB3.out
            repeat (with_reducible (first | assumption | exact ba (Below.refl _ _) | (refine bs ?_ (by simp))))
end Go.Proofs.YtolkfhiominjbaaGreatDoor
