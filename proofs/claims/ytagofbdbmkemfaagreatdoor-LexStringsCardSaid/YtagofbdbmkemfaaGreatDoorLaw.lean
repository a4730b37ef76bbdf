/- The statement LexStrings: its walk. No condition beyond what the theorems state. -/
import Derived.Test.YtagofbdbmkemfaaGreatDoorTokens
import Derived.Test.YtagofbdbmkemfaaGreatDoorValid
import Derived.Deep.DeepCutAuto
namespace Go.Proofs.YtagofbdbmkemfaaGreatDoor
open Go.RowKit Go.Lib
set_option maxRecDepth 100000
set_option maxHeartbeats 8000000

theorem strings_two (s : List UInt8) (hsl : s.length ≤ 9223372036854775807) (w : World) (hT : tabs w) (v : Int) (hm : w.cell? ⟨2, 0, none⟩ = some (.int .i64 v)) (hAW : ∀ W, Below w.heap.size w W → Calls Tryz.prog 4 #[] W fun e w' => e = .returned (.bool true) ∧ Below W.heap.size W w') :
    Calls Tryz.prog 3 #[.string (ba' s), .bool false] w fun e w' => e = .returned (.bool true) ∧ Below w.heap.size w w' := by
  have HAW := Lib.hid hAW
  have hg2 : 2 < w.heap.size := World.block_lt_of_cell? w ⟨2, 0, none⟩ hm
  have hss : (ba' s).size = s.length := size_ba s
  clear hAW
  go_enter Tryz.func3, Tryz.ntmps3
  go_wp2_with fail
  refine (HAW.out w (Below.refl _ _)).mono ?_
  rintro e w1 ⟨rfl, hb1⟩
  have HB1 := Lib.hid hb1
  clear hb1
  by_cases h3 : 3000 < s.length
  · have g3 : decide ((s.length : Int) > 3000) = true := by simp; omega
    have g3' : decide ((3000 : Int) < (s.length : Int)) = true := by simp; omega
    go_wp2_with fail
    refine (HAW.out w1 HB1.out).mono ?_
    rintro e w2 ⟨rfl, hb2⟩
    have HB2 := Lib.hid (bt HB1.out hb2)
    clear hb2
    go_wp2
    go_ret
    exact ⟨rfl, HB2.out⟩
  · have g3 : decide ((s.length : Int) > 3000) = false := by simp; omega
    have g3' : decide ((3000 : Int) < (s.length : Int)) = false := by simp; omega
    have HV := Lib.hid (valid_ref (ba' s) w1 (by rw [size_ba]; omega))
    obtain ⟨vb, hvb⟩ : ∃ vb, validX (ba' s).data.toList = vb := ⟨_, rfl⟩
    rw [hvb] at HV
    have HVB : Hid (validX s = vb) := Lib.hid hvb
    clear hvb
    go_wp2_with fail
    refine HV.out.mono ?_
    rintro e w2 ⟨rfl, hb2⟩
    have HB2 : Hid (Below w.heap.size w w2) := Lib.hid (bt HB1.out hb2)
    clear hb2 HV
    cases vb
    · go_wp2_with fail
      refine (HAW.out w2 HB2.out).mono ?_
      rintro e w3 ⟨rfl, hb3⟩
      have HB3 := Lib.hid (bt HB2.out hb3)
      clear hb3
      go_wp2
      go_ret
      exact ⟨rfl, HB3.out⟩
    · have hs3 : s.length ≤ 3000 := by omega
      have HT2 : Hid (tabs w2) := Lib.hid (Utf8Tabs_below hT HB2.out)
      have HM2 : Hid (w2.cell? ⟨2, 0, none⟩ = some (.int .i64 v)) := Lib.hid ((HB2.out.cell (p := ⟨2, 0, none⟩) hg2).trans hm)
      have hg22 : 2 < w2.heap.size := Nat.lt_of_lt_of_le hg2 HB2.out.size
      have HYES : Hid (∀ W, Below w2.heap.size w2 W → Calls Tryz.prog 6 #[.string (ba' (32 :: 34 :: (esc 34 s ++ [34, 97]))), .int .i64 0] W fun e w' => e = .returned (.tuple #[.agg #[.int .i64 5, .string (ba' s), .int .i64 1, .int .i64 (((esc 34 s).length + 3 : Nat) : Int)], .int .i64 0]) ∧ Below W.heap.size W w') := Lib.hid fun W hW =>
        next_yes 34 (by decide) s hs3 HVB.out W (Utf8Tabs_below HT2.out hW) v ((hW.cell (p := ⟨2, 0, none⟩) hg22).trans HM2.out)
      have HNO : Hid (∀ W, Below w2.heap.size w2 W → Calls Tryz.prog 6 #[.string (ba' (34 :: esc 34 s)), .int .i64 0] W fun e w' => e = .returned (.tuple #[.agg #[.int .i64 0, .string ⟨#[]⟩, .int .i64 0, .int .i64 0], .int .i64 40]) ∧ Below W.heap.size W w') := Lib.hid fun W hW =>
        next_no 34 (by decide) s hs3 HVB.out W (Utf8Tabs_below HT2.out hW) v ((hW.cell (p := ⟨2, 0, none⟩) hg22).trans HM2.out)
      clear hm hT h3 hg22
      go_wp2
      go_loopw [6, 7] (fun s6 s7 wx => ∃ (i : Nat) (X : List UInt8), s7 = .int .i64 i ∧ s6 = .string (ba' X) ∧ i ≤ s.length ∧ X.length ≤ 5 * i + 1 ∧ Hid (X = 34 :: esc 34 (s.take i)) ∧ Below w2.heap.size w2 wx) (fun _ s7 _ => s.length - (intOf s7).toNat)
      case atStart => exact ⟨0, [34], rfl, rfl, Nat.zero_le _, by simp, Lib.hid (by simp [esc]), Below.refl _ _⟩
      case round =>
        obtain ⟨i, X, rfl, rfl, hi, hXl, hX, hBW⟩ := hrel
        have HIB := Lib.hid hBW
        have hXs : (ba' X).size = X.length := size_ba X
        by_cases hlt : i < s.length
        · have g0 : decide ((i : Int) < (s.length : Int)) = true := by first | (simp; done) | (simp; omega)
          obtain ⟨c, hc⟩ : ∃ c, s[i]? = some c := ⟨_, List.getElem?_eq_getElem hlt⟩
          have HTK : Hid (esc 34 (s.take (i + 1)) = esc 34 (s.take i) ++ escB 34 c) := Lib.hid (by
            rw [List.take_add_one, hc, esc_app]
            show _ ++ (escB 34 c ++ []) = _
            rw [List.append_nil])
          have HEX : Hid ((ba' s).extract i (i + 1) = ba' [c]) := Lib.hid (cut_one s i c hc)
          have hsi : i < (ba' s).size := by rw [hss]; exact hlt
          have HC : Hid (((ba' s)[i]'hsi) = c) := Lib.hid (by
            have h1 : (ba' s).data.toList[i]? = some c := hc
            have h2 := List.getElem?_eq_some_iff.1 h1
            exact h2.2)
          clear hc
          go_upto_if 40 with fail
          rw [HEX.out]
          by_cases hcq : c = 34
          · subst hcq
            have HE : Hid (X ++ [34] ++ [34] = 34 :: esc 34 (s.take (i + 1))) := Lib.hid (by
              rw [HTK.out, hX.out]
              show 34 :: ((esc 34 (s.take i) ++ [34]) ++ [34]) = _
              rw [List.append_assoc]
              rfl)
            have HS : Hid (ba' X ++ ⟨#[34]⟩ ++ ⟨#[34]⟩ = ba' (X ++ [34] ++ [34])) := Lib.hid (by
              show ba' X ++ ba' [34] ++ ba' [34] = _
              rw [ba_app, ba_app])
            have gq : ((ba' [34]).toList == [34]) = true := by rw [toList_ba]; rfl
            have r1 : ¬ (9223372036854775807 < (ba' X).size + 1) := by omega
            have r2 : ¬ (9223372036854775807 < (ba' X ++ ⟨#[34]⟩).size + 1) := by
              have : (ba' X ++ ⟨#[34]⟩).size = X.length + 1 := by
                show (ba' X ++ ba' [34]).size = _
                rw [ba_app, size_ba]; simp
              omega
            rw [gq]
            go_wp2
            rw [HS.out]
            go_roundw
            case rel => exact ⟨i + 1, X ++ [34] ++ [34], by go_num, rfl, by omega, by simp; omega, HE, HIB.out⟩
            case measure => simp [intOf]; omega
          · have gq : ((ba' [c]).toList == [34]) = false := by rw [toList_ba]; simpa using hcq
            by_cases hc38 : c = 38
            · have HE : Hid (X ++ [38, 35, 51, 56, 59] = 34 :: esc 34 (s.take (i + 1))) := Lib.hid (by
                rw [HTK.out, hX.out, hc38]
                rfl)
              have HS : Hid (ba' X ++ ⟨#[38, 35, 51, 56, 59]⟩ = ba' (X ++ [38, 35, 51, 56, 59])) := Lib.hid (by
                show ba' X ++ ba' [38, 35, 51, 56, 59] = _
                rw [ba_app])
              have g38 : ((((ba' s)[i]'hsi).toNat : Int) == 38) = true := by rw [HC.out, hc38]; rfl
              have r1 : ¬ (9223372036854775807 < (ba' X).size + 5) := by omega
              clear hc38 hcq
              rw [gq]
              go_wp2
              rw [HS.out]
              go_roundw
              case rel => exact ⟨i + 1, X ++ [38, 35, 51, 56, 59], by go_num, rfl, by omega, by simp; omega, HE, HIB.out⟩
              case measure => simp [intOf]; omega
            · have HE : Hid (X ++ [c] = 34 :: esc 34 (s.take (i + 1))) := Lib.hid (by
                rw [HTK.out, hX.out]
                unfold escB
                rw [if_neg hcq, if_neg hc38]
                rfl)
              have HS : Hid (ba' X ++ (ba' s).extract i (i + 1) = ba' (X ++ [c])) := Lib.hid (by
                rw [HEX.out, ba_app])
              have g38 : ((((ba' s)[i]'hsi).toNat : Int) == 38) = false := by rw [HC.out]; exact nat_ne (b := 38) hc38
              have hez : ((ba' s).extract i (i + 1)).size = 1 := by rw [HEX.out, size_ba]; rfl
              have r1 : ¬ (9223372036854775807 < (ba' X).size + ((ba' s).extract i (i + 1)).size) := by omega
              clear hc38 hcq
              rw [gq]
              go_wp2
              rw [HS.out]
              go_roundw
              case rel => exact ⟨i + 1, X ++ [c], by go_num, rfl, by omega, by simp; omega, HE, HIB.out⟩
              case measure => simp [intOf]; omega
        · obtain rfl : i = s.length := by omega
          have g0 : decide ((s.length : Int) < (s.length : Int)) = false := by simp
          have hXe : X = 34 :: esc 34 s := by rw [hX.out, List.take_length]
          subst hXe
          have HS : Hid (ba' (34 :: esc 34 s) ++ ⟨#[34]⟩ = ba' (34 :: (esc 34 s ++ [34]))) := Lib.hid (by
            show ba' (34 :: esc 34 s) ++ ba' [34] = _
            rw [ba_app]
            rfl)
          have hl := esc_le 34 s
          have r1 : ¬ (9223372036854775807 < (ba' (34 :: esc 34 s)).size + 1) := by omega
          have HS2 : Hid (({ data := #[32] } : ByteArray) ++ (ba' (34 :: esc 34 s) ++ { data := #[34] }) ++ { data := #[97] } = ba' (32 :: 34 :: (esc 34 s ++ [34, 97]))) := Lib.hid (by
            show ba' [32] ++ (ba' (34 :: esc 34 s) ++ ba' [34]) ++ ba' [97] = _
            rw [ba_app, ba_app, ba_app]
            congr 1
            simp)
          go_upto_if 63 with fail
          rw [HS2.out]
          refine (HYES.out wr HIB.out).mono ?_
          rintro e w4 ⟨rfl, hb4⟩
          have HB4 : Hid (Below w2.heap.size w2 w4) := Lib.hid (bt HIB.out hb4)
          clear hb4 HYES
          have HS3 : Hid ((ba' (34 :: esc 34 s) ++ { data := #[34] } : ByteArray).extract 0 ((esc 34 s).length + 1) = ba' (34 :: esc 34 s)) := Lib.hid (by
            rw [HS.out, cut_take]
            congr 1
            simp)
          go_upto_if 70 with fail
          rw [HS3.out]
          have hc4 : ∀ j, (w4.alloc (.cells #[.int .i64 5, .string (ba' s), .int .i64 1, .int .i64 (((esc 34 s).length : Int) + 3)] 26)).cell? ⟨w4.heap.size, j, none⟩ = (#[.int .i64 5, .string (ba' s), .int .i64 1, .int .i64 (((esc 34 s).length : Int) + 3)] : Array Value)[j]? := fun j => Lib.cell_of_heap (heap_alloc_new w4 _) j
          have hb5 : Below w2.heap.size w2 (w4.alloc (.cells #[.int .i64 5, .string (ba' s), .int .i64 1, .int .i64 (((esc 34 s).length : Int) + 3)] 26)) := ba HB4.out
          have hz5 : w4.heap.size < (w4.alloc (.cells #[.int .i64 5, .string (ba' s), .int .i64 1, .int .i64 (((esc 34 s).length : Int) + 3)] 26)).heap.size := by simp
          revert hc4 hb5 hz5
          generalize w4.alloc (.cells #[.int .i64 5, .string (ba' s), .int .i64 1, .int .i64 (((esc 34 s).length : Int) + 3)] 26) = w5
          intro hc4 hb5 hz5
          have HC4 := Lib.hid hc4
          have HB5 := Lib.hid hb5
          clear hc4 hb5
          obtain ⟨g, hg⟩ : ∃ g, w4.heap.size = g := ⟨_, rfl⟩
          rw [hg] at HC4 hz5 ⊢
          refine (HNO.out w5 HB5.out).mono ?_
          rintro e w6 ⟨rfl, hb6⟩
          have HB6 : Hid (Below w2.heap.size w2 w6) := Lib.hid (bt HB5.out hb6)
          have hz6 : g < w6.heap.size := Nat.lt_of_lt_of_le hz5 hb6.size
          have c0 : w6.cell? ⟨g, 0, none⟩ = some (.int .i64 5) := (hb6.cell (p := ⟨g, 0, none⟩) hz5).trans (HC4.out 0)
          have c1 : w6.cell? ⟨g, 1, none⟩ = some (.string (ba' s)) := (hb6.cell (p := ⟨g, 1, none⟩) hz5).trans (HC4.out 1)
          have c2 : w6.cell? ⟨g, 2, none⟩ = some (.int .i64 1) := (hb6.cell (p := ⟨g, 2, none⟩) hz5).trans (HC4.out 2)
          have c3 : w6.cell? ⟨g, 3, none⟩ = some (.int .i64 (((esc 34 s).length : Int) + 3)) := (hb6.cell (p := ⟨g, 3, none⟩) hz5).trans (HC4.out 3)
          clear hb6 HNO
          have hxz : (ba' (34 :: esc 34 s) ++ { data := #[34] } : ByteArray).size = (esc 34 s).length + 2 := by
            rw [HS.out, size_ba]; simp
          go_upto_if 85 with fail
          go_ret
          exact ⟨rfl, ba (bt HB2.out HB6.out)⟩

theorem strings_one (s : List UInt8) (hsl : s.length ≤ 9223372036854775807) (w : World) (hT : tabs w) (v : Int) (hm : w.cell? ⟨2, 0, none⟩ = some (.int .i64 v)) (hAW : ∀ W, Below w.heap.size w W → Calls Tryz.prog 4 #[] W fun e w' => e = .returned (.bool true) ∧ Below W.heap.size W w') :
    Calls Tryz.prog 3 #[.string (ba' s), .bool true] w fun e w' => e = .returned (.bool true) ∧ Below w.heap.size w w' := by
  have HAW := Lib.hid hAW
  have hg2 : 2 < w.heap.size := World.block_lt_of_cell? w ⟨2, 0, none⟩ hm
  have hss : (ba' s).size = s.length := size_ba s
  clear hAW
  go_enter Tryz.func3, Tryz.ntmps3
  go_wp2_with fail
  refine (HAW.out w (Below.refl _ _)).mono ?_
  rintro e w1 ⟨rfl, hb1⟩
  have HB1 := Lib.hid hb1
  clear hb1
  by_cases h3 : 3000 < s.length
  · have g3 : decide ((s.length : Int) > 3000) = true := by simp; omega
    have g3' : decide ((3000 : Int) < (s.length : Int)) = true := by simp; omega
    go_wp2_with fail
    refine (HAW.out w1 HB1.out).mono ?_
    rintro e w2 ⟨rfl, hb2⟩
    have HB2 := Lib.hid (bt HB1.out hb2)
    clear hb2
    go_wp2
    go_ret
    exact ⟨rfl, HB2.out⟩
  · have g3 : decide ((s.length : Int) > 3000) = false := by simp; omega
    have g3' : decide ((3000 : Int) < (s.length : Int)) = false := by simp; omega
    have HV := Lib.hid (valid_ref (ba' s) w1 (by rw [size_ba]; omega))
    obtain ⟨vb, hvb⟩ : ∃ vb, validX (ba' s).data.toList = vb := ⟨_, rfl⟩
    rw [hvb] at HV
    have HVB : Hid (validX s = vb) := Lib.hid hvb
    clear hvb
    go_wp2_with fail
    refine HV.out.mono ?_
    rintro e w2 ⟨rfl, hb2⟩
    have HB2 : Hid (Below w.heap.size w w2) := Lib.hid (bt HB1.out hb2)
    clear hb2 HV
    cases vb
    · go_wp2_with fail
      refine (HAW.out w2 HB2.out).mono ?_
      rintro e w3 ⟨rfl, hb3⟩
      have HB3 := Lib.hid (bt HB2.out hb3)
      clear hb3
      go_wp2
      go_ret
      exact ⟨rfl, HB3.out⟩
    · have hs3 : s.length ≤ 3000 := by omega
      have HT2 : Hid (tabs w2) := Lib.hid (Utf8Tabs_below hT HB2.out)
      have HM2 : Hid (w2.cell? ⟨2, 0, none⟩ = some (.int .i64 v)) := Lib.hid ((HB2.out.cell (p := ⟨2, 0, none⟩) hg2).trans hm)
      have hg22 : 2 < w2.heap.size := Nat.lt_of_lt_of_le hg2 HB2.out.size
      have HYES : Hid (∀ W, Below w2.heap.size w2 W → Calls Tryz.prog 6 #[.string (ba' (32 :: 39 :: (esc 39 s ++ [39, 97]))), .int .i64 0] W fun e w' => e = .returned (.tuple #[.agg #[.int .i64 5, .string (ba' s), .int .i64 1, .int .i64 (((esc 39 s).length + 3 : Nat) : Int)], .int .i64 0]) ∧ Below W.heap.size W w') := Lib.hid fun W hW =>
        next_yes 39 (by decide) s hs3 HVB.out W (Utf8Tabs_below HT2.out hW) v ((hW.cell (p := ⟨2, 0, none⟩) hg22).trans HM2.out)
      have HNO : Hid (∀ W, Below w2.heap.size w2 W → Calls Tryz.prog 6 #[.string (ba' (39 :: esc 39 s)), .int .i64 0] W fun e w' => e = .returned (.tuple #[.agg #[.int .i64 0, .string ⟨#[]⟩, .int .i64 0, .int .i64 0], .int .i64 40]) ∧ Below W.heap.size W w') := Lib.hid fun W hW =>
        next_no 39 (by decide) s hs3 HVB.out W (Utf8Tabs_below HT2.out hW) v ((hW.cell (p := ⟨2, 0, none⟩) hg22).trans HM2.out)
      clear hm hT h3 hg22
      go_wp2
      go_loopw [6, 7] (fun s6 s7 wx => ∃ (i : Nat) (X : List UInt8), s7 = .int .i64 i ∧ s6 = .string (ba' X) ∧ i ≤ s.length ∧ X.length ≤ 5 * i + 1 ∧ Hid (X = 39 :: esc 39 (s.take i)) ∧ Below w2.heap.size w2 wx) (fun _ s7 _ => s.length - (intOf s7).toNat)
      case atStart => exact ⟨0, [39], rfl, rfl, Nat.zero_le _, by simp, Lib.hid (by simp [esc]), Below.refl _ _⟩
      case round =>
        obtain ⟨i, X, rfl, rfl, hi, hXl, hX, hBW⟩ := hrel
        have HIB := Lib.hid hBW
        have hXs : (ba' X).size = X.length := size_ba X
        by_cases hlt : i < s.length
        · have g0 : decide ((i : Int) < (s.length : Int)) = true := by first | (simp; done) | (simp; omega)
          obtain ⟨c, hc⟩ : ∃ c, s[i]? = some c := ⟨_, List.getElem?_eq_getElem hlt⟩
          have HTK : Hid (esc 39 (s.take (i + 1)) = esc 39 (s.take i) ++ escB 39 c) := Lib.hid (by
            rw [List.take_add_one, hc, esc_app]
            show _ ++ (escB 39 c ++ []) = _
            rw [List.append_nil])
          have HEX : Hid ((ba' s).extract i (i + 1) = ba' [c]) := Lib.hid (cut_one s i c hc)
          have hsi : i < (ba' s).size := by rw [hss]; exact hlt
          have HC : Hid (((ba' s)[i]'hsi) = c) := Lib.hid (by
            have h1 : (ba' s).data.toList[i]? = some c := hc
            have h2 := List.getElem?_eq_some_iff.1 h1
            exact h2.2)
          clear hc
          go_upto_if 40 with fail
          rw [HEX.out]
          by_cases hcq : c = 39
          · subst hcq
            have HE : Hid (X ++ [39] ++ [39] = 39 :: esc 39 (s.take (i + 1))) := Lib.hid (by
              rw [HTK.out, hX.out]
              show 39 :: ((esc 39 (s.take i) ++ [39]) ++ [39]) = _
              rw [List.append_assoc]
              rfl)
            have HS : Hid (ba' X ++ ⟨#[39]⟩ ++ ⟨#[39]⟩ = ba' (X ++ [39] ++ [39])) := Lib.hid (by
              show ba' X ++ ba' [39] ++ ba' [39] = _
              rw [ba_app, ba_app])
            have gq : ((ba' [39]).toList == [39]) = true := by rw [toList_ba]; rfl
            have r1 : ¬ (9223372036854775807 < (ba' X).size + 1) := by omega
            have r2 : ¬ (9223372036854775807 < (ba' X ++ ⟨#[39]⟩).size + 1) := by
              have : (ba' X ++ ⟨#[39]⟩).size = X.length + 1 := by
                show (ba' X ++ ba' [39]).size = _
                rw [ba_app, size_ba]; simp
              omega
            rw [gq]
            go_wp2
            rw [HS.out]
            go_roundw
            case rel => exact ⟨i + 1, X ++ [39] ++ [39], by go_num, rfl, by omega, by simp; omega, HE, HIB.out⟩
            case measure => simp [intOf]; omega
          · have gq : ((ba' [c]).toList == [39]) = false := by rw [toList_ba]; simpa using hcq
            by_cases hc38 : c = 38
            · have HE : Hid (X ++ [38, 35, 51, 56, 59] = 39 :: esc 39 (s.take (i + 1))) := Lib.hid (by
                rw [HTK.out, hX.out, hc38]
                rfl)
              have HS : Hid (ba' X ++ ⟨#[38, 35, 51, 56, 59]⟩ = ba' (X ++ [38, 35, 51, 56, 59])) := Lib.hid (by
                show ba' X ++ ba' [38, 35, 51, 56, 59] = _
                rw [ba_app])
              have g38 : ((((ba' s)[i]'hsi).toNat : Int) == 38) = true := by rw [HC.out, hc38]; rfl
              have r1 : ¬ (9223372036854775807 < (ba' X).size + 5) := by omega
              clear hc38 hcq
              rw [gq]
              go_wp2
              rw [HS.out]
              go_roundw
              case rel => exact ⟨i + 1, X ++ [38, 35, 51, 56, 59], by go_num, rfl, by omega, by simp; omega, HE, HIB.out⟩
              case measure => simp [intOf]; omega
            · have HE : Hid (X ++ [c] = 39 :: esc 39 (s.take (i + 1))) := Lib.hid (by
                rw [HTK.out, hX.out]
                unfold escB
                rw [if_neg hcq, if_neg hc38]
                rfl)
              have HS : Hid (ba' X ++ (ba' s).extract i (i + 1) = ba' (X ++ [c])) := Lib.hid (by
                rw [HEX.out, ba_app])
              have g38 : ((((ba' s)[i]'hsi).toNat : Int) == 38) = false := by rw [HC.out]; exact nat_ne (b := 38) hc38
              have hez : ((ba' s).extract i (i + 1)).size = 1 := by rw [HEX.out, size_ba]; rfl
              have r1 : ¬ (9223372036854775807 < (ba' X).size + ((ba' s).extract i (i + 1)).size) := by omega
              clear hc38 hcq
              rw [gq]
              go_wp2
              rw [HS.out]
              go_roundw
              case rel => exact ⟨i + 1, X ++ [c], by go_num, rfl, by omega, by simp; omega, HE, HIB.out⟩
              case measure => simp [intOf]; omega
        · obtain rfl : i = s.length := by omega
          have g0 : decide ((s.length : Int) < (s.length : Int)) = false := by simp
          have hXe : X = 39 :: esc 39 s := by rw [hX.out, List.take_length]
          subst hXe
          have HS : Hid (ba' (39 :: esc 39 s) ++ ⟨#[39]⟩ = ba' (39 :: (esc 39 s ++ [39]))) := Lib.hid (by
            show ba' (39 :: esc 39 s) ++ ba' [39] = _
            rw [ba_app]
            rfl)
          have hl := esc_le 39 s
          have r1 : ¬ (9223372036854775807 < (ba' (39 :: esc 39 s)).size + 1) := by omega
          have HS2 : Hid (({ data := #[32] } : ByteArray) ++ (ba' (39 :: esc 39 s) ++ { data := #[39] }) ++ { data := #[97] } = ba' (32 :: 39 :: (esc 39 s ++ [39, 97]))) := Lib.hid (by
            show ba' [32] ++ (ba' (39 :: esc 39 s) ++ ba' [39]) ++ ba' [97] = _
            rw [ba_app, ba_app, ba_app]
            congr 1
            simp)
          go_upto_if 63 with fail
          rw [HS2.out]
          refine (HYES.out wr HIB.out).mono ?_
          rintro e w4 ⟨rfl, hb4⟩
          have HB4 : Hid (Below w2.heap.size w2 w4) := Lib.hid (bt HIB.out hb4)
          clear hb4 HYES
          have HS3 : Hid ((ba' (39 :: esc 39 s) ++ { data := #[39] } : ByteArray).extract 0 ((esc 39 s).length + 1) = ba' (39 :: esc 39 s)) := Lib.hid (by
            rw [HS.out, cut_take]
            congr 1
            simp)
          go_upto_if 70 with fail
          rw [HS3.out]
          have hc4 : ∀ j, (w4.alloc (.cells #[.int .i64 5, .string (ba' s), .int .i64 1, .int .i64 (((esc 39 s).length : Int) + 3)] 26)).cell? ⟨w4.heap.size, j, none⟩ = (#[.int .i64 5, .string (ba' s), .int .i64 1, .int .i64 (((esc 39 s).length : Int) + 3)] : Array Value)[j]? := fun j => Lib.cell_of_heap (heap_alloc_new w4 _) j
          have hb5 : Below w2.heap.size w2 (w4.alloc (.cells #[.int .i64 5, .string (ba' s), .int .i64 1, .int .i64 (((esc 39 s).length : Int) + 3)] 26)) := ba HB4.out
          have hz5 : w4.heap.size < (w4.alloc (.cells #[.int .i64 5, .string (ba' s), .int .i64 1, .int .i64 (((esc 39 s).length : Int) + 3)] 26)).heap.size := by simp
          revert hc4 hb5 hz5
          generalize w4.alloc (.cells #[.int .i64 5, .string (ba' s), .int .i64 1, .int .i64 (((esc 39 s).length : Int) + 3)] 26) = w5
          intro hc4 hb5 hz5
          have HC4 := Lib.hid hc4
          have HB5 := Lib.hid hb5
          clear hc4 hb5
          obtain ⟨g, hg⟩ : ∃ g, w4.heap.size = g := ⟨_, rfl⟩
          rw [hg] at HC4 hz5 ⊢
          refine (HNO.out w5 HB5.out).mono ?_
          rintro e w6 ⟨rfl, hb6⟩
          have HB6 : Hid (Below w2.heap.size w2 w6) := Lib.hid (bt HB5.out hb6)
          have hz6 : g < w6.heap.size := Nat.lt_of_lt_of_le hz5 hb6.size
          have c0 : w6.cell? ⟨g, 0, none⟩ = some (.int .i64 5) := (hb6.cell (p := ⟨g, 0, none⟩) hz5).trans (HC4.out 0)
          have c1 : w6.cell? ⟨g, 1, none⟩ = some (.string (ba' s)) := (hb6.cell (p := ⟨g, 1, none⟩) hz5).trans (HC4.out 1)
          have c2 : w6.cell? ⟨g, 2, none⟩ = some (.int .i64 1) := (hb6.cell (p := ⟨g, 2, none⟩) hz5).trans (HC4.out 2)
          have c3 : w6.cell? ⟨g, 3, none⟩ = some (.int .i64 (((esc 39 s).length : Int) + 3)) := (hb6.cell (p := ⟨g, 3, none⟩) hz5).trans (HC4.out 3)
          clear hb6 HNO
          have hxz : (ba' (39 :: esc 39 s) ++ { data := #[39] } : ByteArray).size = (esc 39 s).length + 2 := by
            rw [HS.out, size_ba]; simp
          go_upto_if 85 with fail
          go_ret
          exact ⟨rfl, ba (bt HB2.out HB6.out)⟩
end Go.Proofs.YtagofbdbmkemfaaGreatDoor
