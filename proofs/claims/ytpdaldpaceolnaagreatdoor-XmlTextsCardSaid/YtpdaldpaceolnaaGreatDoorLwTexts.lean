/- The statement XmlTexts: its walk. No condition beyond what the theorems state. -/
import Derived.Test.YtpdaldpaceolnaaGreatDoorWrapFacts
import Derived.Test.YtpdaldpaceolnaaGreatDoorTextsB
namespace Go.Proofs.YtpdaldpaceolnaaGreatDoor
open Go.RowKit Go.Lib
set_option maxRecDepth 100000
set_option maxHeartbeats 32000000
theorem wrT_len (b : UInt8) : (wrT b).length ≤ 6 := by
  unfold wrT
  repeat' split
  all_goals simp
theorem wrV_len (b : UInt8) : (wrV b).length ≤ 6 := by
  unfold wrV
  repeat' split
  any_goals simp
  exact wrT_len b
theorem flat_len (F : UInt8 → List UInt8) (h : ∀ b, (F b).length ≤ 6) : ∀ l : List UInt8, (l.flatMap F).length ≤ 6 * l.length
  | [] => by simp
  | b :: l => by
    have := flat_len F h l
    have := h b
    rw [List.flatMap_cons, List.length_append, List.length_cons]
    omega
theorem flat_next (F : UInt8 → List UInt8) {s : List UInt8} {i : Nat} (h : i < s.length) : ba' ((s.take i).flatMap F) ++ ba' (F (s[i]'h)) = ba' ((s.take (i + 1)).flatMap F) := by
  rw [ba_app, List.take_succ_eq_append_getElem h, List.flatMap_append]
  simp
theorem texts_law (nm s : List UInt8) (_hn : nm.length ≤ maxLen) (_hs : s.length ≤ maxLen) (w : World) (hE : Env w) : Calls Tryz.prog 6 #[.string (ba' nm), .string (ba' s)] w fun e w' => e = .returned (.bool true) ∧ Below w.heap.size w w' := by
  have hnz : (ba' nm).size = nm.length := size_ba nm
  have hsz : (ba' s).size = s.length := size_ba s
  have HAW : Hid (∀ W, Below w.heap.size w W → Calls Tryz.prog 8 #[] W fun e w' => e = .returned (.bool true) ∧ Below W.heap.size W w') := Lib.hid fun W hW => awake_any W (hE.below hW)
  have HP : Hid (∀ (m : List UInt8) (W : World), m.length ≤ 100000 → Below w.heap.size w W → Calls Tryz.prog 9 #[.string (ba' m)] W (PvPost (parseF m) W)) := Lib.hid fun m W hm hW => parse_any m hm W (hE.below hW)
  clear hE
  obtain ⟨n, hn⟩ : ∃ n, nm.length = n := ⟨_, rfl⟩
  obtain ⟨k, hk⟩ : ∃ k, s.length = k := ⟨_, rfl⟩
  have HN := Lib.hid hn
  have HK := Lib.hid hk
  rw [hn] at hnz
  rw [hk] at hsz
  clear _hn _hs hn hk
  have HNC : Hid (∀ W : World, n ≤ 500 → Calls Tryz.prog 13 #[.string (ba' nm)] W fun e w' => e = .returned (.bool (nameX nm)) ∧ Below W.heap.size W w') := Lib.hid fun W h => name_ref (ba' nm) W (by rw [hnz]; omega)
  have HVC : Hid (∀ W : World, k ≤ 3000 → Calls Tryz.prog 14 #[.string (ba' s)] W fun e w' => e = .returned (.bool (validX s)) ∧ Below W.heap.size W w') := Lib.hid fun W h => valid_ref (ba' s) W (by rw [hsz]; omega)
  obtain ⟨vn, hvn⟩ : ∃ b, nameX nm = b := ⟨_, rfl⟩
  obtain ⟨vs, hvs⟩ : ∃ b, validX s = b := ⟨_, rfl⟩
  rw [hvn] at HNC
  rw [hvs] at HVC
  have HVN := Lib.hid hvn
  have HVS := Lib.hid hvs
  clear hvn hvs
  go_enter Tryz.func6, Tryz.ntmps6
  go_wp2_with fail
  refine (HAW.out _ (Below.refl _ _)).mono ?_
  rintro e w1 ⟨rfl, hbe1⟩
  have HB1 := Lib.hid hbe1
  clear hbe1
  by_cases h1 : 500 < n
  · have b1 : decide ((500 : Int) < (n : Int)) = true := decide_eq_true (by omega)
    have b1' : decide ((n : Int) > 500) = true := b1
    clear h1
    go_wp2_with fail
    refine (HAW.out _ (by have := HB1.out; repeat (with_reducible (first | assumption | apply ba | apply bd | apply bdr)))).mono ?_
    rintro e w2 ⟨rfl, hbe2⟩
    have HB2 := bt HB1.out hbe2
    go_wp2
    go_ret
    exact ⟨rfl, by repeat (with_reducible (first | assumption | apply ba | apply bd | apply bdr))⟩
  have b1 : decide ((500 : Int) < (n : Int)) = false := decide_eq_false (by omega)
  have b1' : decide ((n : Int) > 500) = false := b1
  by_cases h2 : 3000 < k
  · have b2 : decide ((3000 : Int) < (k : Int)) = true := decide_eq_true (by omega)
    have b2' : decide ((k : Int) > 3000) = true := b2
    clear h1 h2
    go_wp2_with fail
    refine (HAW.out _ (by have := HB1.out; repeat (with_reducible (first | assumption | apply ba | apply bd | apply bdr)))).mono ?_
    rintro e w2 ⟨rfl, hbe2⟩
    have HB2 := bt HB1.out hbe2
    go_wp2
    go_ret
    exact ⟨rfl, by repeat (with_reducible (first | assumption | apply ba | apply bd | apply bdr))⟩
  have b2 : decide ((3000 : Int) < (k : Int)) = false := decide_eq_false (by omega)
  have b2' : decide ((k : Int) > 3000) = false := b2
  have HNC2 := Lib.hid (fun W => HNC.out W (by omega))
  have HVC2 := Lib.hid (fun W => HVC.out W (by omega))
  have HLL := Lib.hid (And.intro h1 h2)
  clear h1 h2 HNC HVC
  go_wp2_with fail
  refine (HNC2.out _).mono ?_
  rintro e w2 ⟨rfl, hbe2⟩
  have HB2 := Lib.hid (bt HB1.out hbe2)
  clear hbe2
  cases vn with
  | false =>
    go_wp2_with fail
    refine (HAW.out _ (by have := HB2.out; repeat (with_reducible (first | assumption | apply ba | apply bd | apply bdr)))).mono ?_
    rintro e w3 ⟨rfl, hbe3⟩
    have HB3 := bt HB2.out hbe3
    go_wp2
    go_ret
    exact ⟨rfl, by repeat (with_reducible (first | assumption | apply ba | apply bd | apply bdr))⟩
  | true =>
    go_wp2_with fail
    refine (HVC2.out _).mono ?_
    rintro e w3 ⟨rfl, hbe3⟩
    have HB3 := Lib.hid (bt HB2.out hbe3)
    clear hbe3
    cases vs with
    | false =>
      go_wp2_with fail
      refine (HAW.out _ (by have := HB3.out; repeat (with_reducible (first | assumption | apply ba | apply bd | apply bdr)))).mono ?_
      rintro e w4 ⟨rfl, hbe4⟩
      have HB4 := bt HB3.out hbe4
      go_wp2
      go_ret
      exact ⟨rfl, by repeat (with_reducible (first | assumption | apply ba | apply bd | apply bdr))⟩
    | true =>
      obtain ⟨R, hR⟩ : ∃ R, parseF (textsL nm s) = R := ⟨_, rfl⟩
      have hlen : (textsL nm s).length ≤ 100000 := by
        have l1 := flat_len wrV wrV_len s
        have l2 := flat_len wrT wrT_len s
        have l3 := HLL.out
        rw [HK.out] at l1 l2
        unfold textsL
        simp only [List.length_append, List.length_cons, List.length_nil]
        rw [HN.out]
        omega
      have HPT : Hid (∀ W : World, Below w.heap.size w W → Calls Tryz.prog 9 #[.string (ba' (textsL nm s))] W (PvPost R W)) := Lib.hid fun W hW => by rw [← hR]; exact HP.out _ W hlen hW
      have HRR : Hid (R = .ok (.mk 1 [] [] [] [.mk 2 nm [] [(nm, s)] (textK s)]) []) := Lib.hid (by
        rw [← hR]
        unfold parseF
        rw [if_pos (texts_valid nm s HVN.out HVS.out)]
        exact texts_doc nm s HVN.out)
      have HTB := Lib.hid (texts_ba nm s)
      have HFT : Hid (∀ i (h : i < s.length), ba' ((s.take i).flatMap wrT) ++ ba' (wrT (s[i]'h)) = ba' ((s.take (i + 1)).flatMap wrT)) := Lib.hid fun i h => flat_next wrT h
      have HFV : Hid (∀ i (h : i < s.length), ba' ((s.take i).flatMap wrV) ++ ba' (wrV (s[i]'h)) = ba' ((s.take (i + 1)).flatMap wrV)) := Lib.hid fun i h => flat_next wrV h
      have HZT : Hid (∀ i, i ≤ k → (ba' ((s.take i).flatMap wrT)).size ≤ 18000) := Lib.hid fun i hi => by
        have l1 := flat_len wrT wrT_len (s.take i)
        have l3 := HLL.out
        rw [List.length_take] at l1
        rw [size_ba]
        omega
      have HZV : Hid (∀ i, i ≤ k → (ba' ((s.take i).flatMap wrV)).size ≤ 18000) := Lib.hid fun i hi => by
        have l1 := flat_len wrV wrV_len (s.take i)
        have l3 := HLL.out
        rw [List.length_take] at l1
        rw [size_ba]
        omega
      clear hR hlen HP HAW HNC2 HVC2 b1 b1' b2 b2'
      obtain ⟨FT, hFT⟩ : ∃ F : Nat → ByteArray, (fun i => ba' ((s.take i).flatMap wrT)) = F := ⟨_, rfl⟩
      obtain ⟨FV, hFV⟩ : ∃ F : Nat → ByteArray, (fun i => ba' ((s.take i).flatMap wrV)) = F := ⟨_, rfl⟩
      have hft : ∀ i, ba' ((s.take i).flatMap wrT) = FT i := fun i => by rw [← hFT]
      have hfv : ∀ i, ba' ((s.take i).flatMap wrV) = FV i := fun i => by rw [← hFV]
      have HFT0 : Hid (FT 0 = ⟨#[]⟩) := Lib.hid (by rw [← hft]; rfl)
      have HFV0 : Hid (FV 0 = ⟨#[]⟩) := Lib.hid (by rw [← hfv]; rfl)
      simp only [hft] at HFT HZT
      simp only [hfv] at HFV HZV
      have HEND : Hid (ba' (s.flatMap wrT) = FT k ∧ ba' (s.flatMap wrV) = FV k) := Lib.hid (by rw [← hft, ← hfv, ← HK.out, List.take_length]; exact ⟨rfl, rfl⟩)
      clear hft hfv hFT hFV
      go_wp2_with fail
      go_loopw [5, 6, 7] (fun s5 s6 s7 wx => ∃ i : Nat, s5 = .string (FT i) ∧ s6 = .string (FV i) ∧ s7 = .int .i64 (i : Nat) ∧ i ≤ k ∧ Below w3.heap.size w3 wx) (fun _ _ s7 _ => k - (intOf s7).toNat)
      case atStart => exact ⟨0, by rw [HFT0.out], by rw [HFV0.out], rfl, Nat.zero_le _, by repeat (with_reducible (first | exact Below.refl _ _ | assumption | apply ba | apply bd | apply bdr))⟩
      case round =>
        obtain ⟨i, rfl, rfl, rfl, hi, hB⟩ := hrel
        have HBX := Lib.hid hB
        have HBW : Hid (Below w.heap.size w wr) := Lib.hid (bt HB3.out hB)
        clear hB
        by_cases hik : i < k
        · have hlt : i < s.length := by rw [HK.out]; exact hik
          have hT := HFT.out i hlt
          have hV := HFV.out i hlt
          obtain ⟨c, hc⟩ : ∃ c, s[i]'hlt = c := ⟨_, rfl⟩
          rw [hc] at hT hV
          have hlt' : i < (ba' s).size := by rw [hsz]; exact hik
          have ec : (ba' s)[i]'hlt' = c := hc
          have q1 : decide ((i : Int) < (k : Int)) = true := decide_eq_true (by omega)
          have vi : wrap64 ((i : Int) + 1) = (i : Int) + 1 := by have := HLL.out.2; unfold wrap64; omega
          have hex : (ba' s).extract i (i + 1) = ba' [c] := by
            rw [cut_mid, Nat.add_sub_cancel_left, List.drop_eq_getElem_cons hlt, hc]
            rfl
          have hz1 := HZT.out i hi
          have hz2 := HZV.out i hi
          obtain ⟨TX, hTX⟩ : ∃ b, FT i = b := ⟨_, rfl⟩
          obtain ⟨VX, hVX⟩ : ∃ b, FV i = b := ⟨_, rfl⟩
          rw [hTX] at hz1 hT ⊢
          rw [hVX] at hz2 hV ⊢
          have HT := Lib.hid hT
          have HV := Lib.hid hV
          have HIK := Lib.hid hik
          have i1 : (i : Int) ≤ (i : Int) + 1 := by omega
          have i2 : i + 1 ≤ k := by omega
          have i3 : (0 : Int) ≤ (i : Int) + 1 := by omega
          clear hT hV hTX hVX hc hi
          by_cases h38 : c = 38
          · subst h38
            have g1 : ¬ 9223372036854775807 < TX.size + 5 := by omega
            have g2 : ¬ 9223372036854775807 < VX.size + 5 := by omega
            go_wp2
            simp only [vi]
            exact ⟨⟨i + 1, congrArg Value.string HT.out, congrArg Value.string HV.out, by simp, i2, HBX.out⟩, by simp [intOf]; have := HIK.out; omega⟩
          by_cases h60 : c = 60
          · subst h60
            have g1 : ¬ 9223372036854775807 < TX.size + 5 := by omega
            have g2 : ¬ 9223372036854775807 < VX.size + 5 := by omega
            go_wp2
            simp only [vi]
            exact ⟨⟨i + 1, congrArg Value.string HT.out, congrArg Value.string HV.out, by simp, i2, HBX.out⟩, by simp [intOf]; have := HIK.out; omega⟩
          by_cases h62 : c = 62
          · subst h62
            have g1 : ¬ 9223372036854775807 < TX.size + 6 := by omega
            have g2 : ¬ 9223372036854775807 < VX.size + 6 := by omega
            go_wp2
            simp only [vi]
            exact ⟨⟨i + 1, congrArg Value.string HT.out, congrArg Value.string HV.out, by simp, i2, HBX.out⟩, by simp [intOf]; have := HIK.out; omega⟩
          by_cases h13 : c = 13
          · subst h13
            have g1 : ¬ 9223372036854775807 < TX.size + 5 := by omega
            have g2 : ¬ 9223372036854775807 < VX.size + 5 := by omega
            go_wp2
            simp only [vi]
            exact ⟨⟨i + 1, congrArg Value.string HT.out, congrArg Value.string HV.out, by simp, i2, HBX.out⟩, by simp [intOf]; have := HIK.out; omega⟩
          by_cases h34 : c = 34
          · subst h34
            have hexs : ((ba' s).extract i (i + 1)).size = 1 := by rw [hex]; rfl
            have g1 : ¬ 9223372036854775807 < TX.size + 1 := by omega
            have g3 : ¬ 9223372036854775807 < TX.size + (min (i + 1) k - i) := by omega
            have g4 : ¬ 9223372036854775807 < TX.size + (min (i + 1) (ba' s).size - i) := by rw [hsz]; omega
            have g5 : ¬ 9223372036854775807 < TX.size + ((ba' s).extract i (i + 1)).size := by rw [hexs]; omega
            have g2 : ¬ 9223372036854775807 < VX.size + 6 := by omega
            go_wp2
            simp only [vi]
            exact ⟨⟨i + 1, congrArg Value.string HT.out, congrArg Value.string HV.out, by simp, i2, HBX.out⟩, by simp [intOf]; have := HIK.out; omega⟩
          by_cases h9 : c = 9
          · subst h9
            have hexs : ((ba' s).extract i (i + 1)).size = 1 := by rw [hex]; rfl
            have g1 : ¬ 9223372036854775807 < TX.size + 1 := by omega
            have g3 : ¬ 9223372036854775807 < TX.size + (min (i + 1) k - i) := by omega
            have g4 : ¬ 9223372036854775807 < TX.size + (min (i + 1) (ba' s).size - i) := by rw [hsz]; omega
            have g5 : ¬ 9223372036854775807 < TX.size + ((ba' s).extract i (i + 1)).size := by rw [hexs]; omega
            have g2 : ¬ 9223372036854775807 < VX.size + 4 := by omega
            go_wp2
            simp only [vi]
            exact ⟨⟨i + 1, congrArg Value.string HT.out, congrArg Value.string HV.out, by simp, i2, HBX.out⟩, by simp [intOf]; have := HIK.out; omega⟩
          by_cases h10 : c = 10
          · subst h10
            have hexs : ((ba' s).extract i (i + 1)).size = 1 := by rw [hex]; rfl
            have g1 : ¬ 9223372036854775807 < TX.size + 1 := by omega
            have g3 : ¬ 9223372036854775807 < TX.size + (min (i + 1) k - i) := by omega
            have g4 : ¬ 9223372036854775807 < TX.size + (min (i + 1) (ba' s).size - i) := by rw [hsz]; omega
            have g5 : ¬ 9223372036854775807 < TX.size + ((ba' s).extract i (i + 1)).size := by rw [hexs]; omega
            have g2 : ¬ 9223372036854775807 < VX.size + 5 := by omega
            go_wp2
            simp only [vi]
            exact ⟨⟨i + 1, congrArg Value.string HT.out, congrArg Value.string HV.out, by simp, i2, HBX.out⟩, by simp [intOf]; have := HIK.out; omega⟩
          have hwT : wrT c = [c] := by
            unfold wrT
            rw [if_neg h38, if_neg h60, if_neg h62, if_neg h13]
          have hwV : wrV c = [c] := by
            unfold wrV
            rw [if_neg h34, if_neg h9, if_neg h10, hwT]
          have hT2 := Lib.hid HT.out
          have hV2 := Lib.hid HV.out
          rw [hwT] at hT2
          rw [hwV] at hV2
          have big : ∀ z : UInt8, ¬ c = z → ((c.toNat : Int) == (z.toNat : Int)) = false := fun z h => by
            rw [beq_eq_false_iff_ne]
            intro e
            exact h (UInt8.toNat_inj.1 (by omega))
          have f38 : ((c.toNat : Int) == 38) = false := big 38 h38
          have f60 : ((c.toNat : Int) == 60) = false := big 60 h60
          have f62 : ((c.toNat : Int) == 62) = false := big 62 h62
          have f13 : ((c.toNat : Int) == 13) = false := big 13 h13
          have f34 : ((c.toNat : Int) == 34) = false := big 34 h34
          have f9 : ((c.toNat : Int) == 9) = false := big 9 h9
          have f10 : ((c.toNat : Int) == 10) = false := big 10 h10
          have hexs : ((ba' s).extract i (i + 1)).size = 1 := by rw [hex]; rfl
          have g1 : ¬ 9223372036854775807 < TX.size + 1 := by omega
          have g3 : ¬ 9223372036854775807 < TX.size + (min (i + 1) k - i) := by omega
          have g4 : ¬ 9223372036854775807 < TX.size + (min (i + 1) (ba' s).size - i) := by rw [hsz]; omega
          have g5 : ¬ 9223372036854775807 < TX.size + ((ba' s).extract i (i + 1)).size := by rw [hexs]; omega
          have k1 : ¬ 9223372036854775807 < VX.size + 1 := by omega
          have k3 : ¬ 9223372036854775807 < VX.size + (min (i + 1) k - i) := by omega
          have k4 : ¬ 9223372036854775807 < VX.size + (min (i + 1) (ba' s).size - i) := by rw [hsz]; omega
          have k5 : ¬ 9223372036854775807 < VX.size + ((ba' s).extract i (i + 1)).size := by rw [hexs]; omega
          clear big h38 h60 h62 h13 h34 h9 h10 hwT hwV HT HV
          go_wp2
          simp only [vi]
          exact ⟨⟨i + 1, congrArg Value.string hT2.out, congrArg Value.string hV2.out, by simp, i2, HBX.out⟩, by simp [intOf]; have := HIK.out; omega⟩
        · obtain rfl : i = k := by omega
          have q1 : decide ((i : Int) < (i : Int)) = false := decide_eq_false (by omega)
          have hz1 := HZT.out i hi
          have hz2 := HZV.out i hi
          have hz0 : (ba' nm).size ≤ 500 := by rw [hnz]; have := HLL.out.1; omega
          rw [HEND.out.1, HEND.out.2] at HTB
          obtain ⟨TT, hTT⟩ : ∃ b, FT i = b := ⟨_, rfl⟩
          obtain ⟨VV, hVV⟩ : ∃ b, FV i = b := ⟨_, rfl⟩
          obtain ⟨NM, hNM⟩ : ∃ b, ba' nm = b := ⟨_, rfl⟩
          rw [hTT] at hz1 HTB ⊢
          rw [hVV] at hz2 HTB ⊢
          rw [hNM] at hz0 HTB hnz ⊢
          have HNM := Lib.hid hNM
          have g1 : ¬ 9223372036854775807 < 1 + NM.size := by omega
          have g2 : ¬ 9223372036854775807 < 1 + NM.size + 1 := by omega
          have g3 : ¬ 9223372036854775807 < 1 + NM.size + 1 + NM.size := by omega
          have g4 : ¬ 9223372036854775807 < 1 + NM.size + 1 + NM.size + 4 := by omega
          have g5 : ¬ 9223372036854775807 < 1 + NM.size + 1 + NM.size + 4 + VV.size := by omega
          have g6 : ¬ 9223372036854775807 < 1 + NM.size + 1 + NM.size + 4 + VV.size + 2 := by omega
          have g7 : ¬ 9223372036854775807 < 1 + NM.size + 1 + NM.size + 4 + VV.size + 2 + TT.size := by omega
          have g8 : ¬ 9223372036854775807 < 1 + NM.size + 1 + NM.size + 4 + VV.size + 2 + TT.size + 2 := by omega
          have g9 : ¬ 9223372036854775807 < 1 + NM.size + 1 + NM.size + 4 + VV.size + 2 + TT.size + 2 + NM.size := by omega
          have g10 : ¬ 9223372036854775807 < 1 + NM.size + 1 + NM.size + 4 + VV.size + 2 + TT.size + 2 + NM.size + 2 := by omega
          clear hi hik hTT hVV hNM HZT HZV HFT HFV HEND HFT0 HFV0
          go_wp2_with fail
          rw [HTB.out]
          refine (HPT.out _ HBW.out).mono ?_
          rintro e w4 he
          rw [HRR.out] at he
          obtain ⟨⟨t, rfl, hp, hin, _⟩, hb4⟩ := he
          have HB4 := Lib.hid (bt HBW.out hb4)
          have hfit : t.pl.fit := by
            rw [hp]
            refine fit_of_bulk ?_
            have h1 := HN.out
            have h2 := HK.out
            have h3 := HLL.out
            have h4 : bulkL (textK s) ≤ 1 + s.length := by
              unfold textK
              split
              · rw [bulkL]; omega
              · rw [bulkL, bulkL, PT.bulk, bulkP, bulkL]
                simp only [List.length_nil]
                omega
            simp only [PT.bulk, bulkL, bulkP, List.length_nil]
            omega
          clear g1 g2 g3 g4 g5 g6 g7 g8 g9 g10 hz0 hz1 hz2 hb4
          obtain ⟨S, hS⟩ : ∃ b, ba' s = b := ⟨_, rfl⟩
          have HS := Lib.hid hS
          rw [hS]
          by_cases hs0 : s = []
          · subst hs0
            have hK : textK [] = [] := rfl
            rw [hK] at hp
            have hS2 : S = ⟨#[]⟩ := by rw [← hS]; rfl
            have hne1 : S.toList.isEmpty = true := by rw [← hS, toList_ba]; rfl
            have HW := Lib.hid (fun (W : World) (h1 : Below w4.heap.size w4 W) (g1 g4 : Nat) => want_none t (NewB wr w4) nm hp hfit W (hin.below (fun _ h => h.2) h1) (fun _ h => Nat.lt_of_lt_of_le h.2 h1.size) g1 g4)
            rw [HNM.out] at HW
            subst hS2
            clear hp hin hfit hK hS
            obtain ⟨tk, tn, tv, tA, tac, tps, tK, tkc, tks⟩ := t
            simp only [Tr.v] at HW ⊢
            obtain ⟨np, hnp⟩ : ∃ q, tps.length = q := ⟨_, rfl⟩
            obtain ⟨nk, hnk⟩ : ∃ q, tks.length = q := ⟨_, rfl⟩
            rw [hnp, hnk] at HW ⊢
            clear hnp hnk
            go_wp2_with fail
            refine (HW.out _ (by repeat (with_reducible (first | exact Below.refl _ _ | assumption | apply ba | apply bd | apply bdr))) (w4.heap.size + 1) (w4.heap.size + 1 + 1 + 1) (by first | (go_simp; done) | (go_simp; rfl) | rfl) (by first | (go_simp; done) | (go_simp; rfl) | rfl) (by first | (go_simp; done) | (go_simp; rfl) | rfl) (by first | (go_simp; done) | (go_simp; rfl) | rfl) (by first | (go_simp; done) | (go_simp; rfl) | rfl) (by first | (go_simp; done) | (go_simp; rfl) | rfl) (by first | (go_simp; done) | (go_simp; rfl) | rfl)).mono ?_
            rintro e w5 ⟨rfl, hb5⟩
            have HB5 : Below w.heap.size w w5 := by have := HB4.out; repeat (with_reducible (first | assumption | apply ba | apply bd | apply bdr | (refine bt ?_ (by assumption))))
            clear hb5
            go_wp2
            go_ret
            exact ⟨rfl, HB5⟩
          · have hK : textK s = [.mk 4 [] s [] []] := by unfold textK; rw [if_neg hs0]
            rw [hK] at hp
            have hne1 : S.toList.isEmpty = false := by
              rw [← hS, toList_ba]
              cases s with
              | nil => exact absurd rfl hs0
              | cons => rfl
            have HW := Lib.hid (fun (W : World) (h1 : Below w4.heap.size w4 W) (g1 g3 g4 : Nat) => want_some t (NewB wr w4) nm s hp hfit W (hin.below (fun _ h => h.2) h1) (fun _ h => Nat.lt_of_lt_of_le h.2 h1.size) g1 g3 g4)
            rw [HNM.out, hS] at HW
            clear hp hin hfit hK hs0 hS
            obtain ⟨tk, tn, tv, tA, tac, tps, tK, tkc, tks⟩ := t
            simp only [Tr.v] at HW ⊢
            obtain ⟨np, hnp⟩ : ∃ q, tps.length = q := ⟨_, rfl⟩
            obtain ⟨nk, hnk⟩ : ∃ q, tks.length = q := ⟨_, rfl⟩
            rw [hnp, hnk] at HW ⊢
            clear hnp hnk
            go_wp2_with fail
            refine (HW.out _ (by repeat (with_reducible (first | exact Below.refl _ _ | assumption | apply ba | apply bd | apply bdr))) (w4.heap.size + 1) (w4.heap.size + 1 + 1 + 1) (w4.heap.size + 1 + 1 + 1 + 1) (by first | (go_simp; done) | (go_simp; rfl) | rfl) (by first | (go_simp; done) | (go_simp; rfl) | rfl) (by first | (go_simp; done) | (go_simp; rfl) | rfl) (by first | (go_simp; done) | (go_simp; rfl) | rfl) (by first | (go_simp; done) | (go_simp; rfl) | rfl) (by first | (go_simp; done) | (go_simp; rfl) | rfl) (by first | (go_simp; done) | (go_simp; rfl) | rfl) (by first | (go_simp; done) | (go_simp; rfl) | rfl) (by first | (go_simp; done) | (go_simp; rfl) | rfl) (by first | (go_simp; done) | (go_simp; rfl) | rfl) (by first | (go_simp; done) | (go_simp; rfl) | rfl) (by first | (go_simp; done) | (go_simp; rfl) | rfl)).mono ?_
            rintro e w5 ⟨rfl, hb5⟩
            have HB5 : Below w.heap.size w w5 := by have := HB4.out; repeat (with_reducible (first | assumption | apply ba | apply bd | apply bdr | (refine bt ?_ (by assumption))))
            clear hb5
            go_wp2
            go_ret
            exact ⟨rfl, HB5⟩
end Go.Proofs.YtpdaldpaceolnaaGreatDoor
