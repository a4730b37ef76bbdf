/- The statement XmlDeep: its walk. No condition beyond what the theorems state. -/
import Derived.Test.YtpdaldpaceolnaaGreatDoorAwake
import Derived.Test.YtpdaldpaceolnaaGreatDoorDeepPlain
import Derived.Test.YtpdaldpaceolnaaGreatDoorRightB
namespace Go.Proofs.YtpdaldpaceolnaaGreatDoor
open Go.RowKit Go.Lib
set_option maxRecDepth 100000
set_option maxHeartbeats 16000000
theorem big3 (s : ByteArray) (h : s.size ≤ 1000) : ¬ 9223372036854775807 < 3 + s.size := by omega
theorem big4 (s : ByteArray) (h : s.size ≤ 1000) : ¬ 9223372036854775807 < ((⟨#[60, 97, 62]⟩ : ByteArray) ++ s).size + 4 := by
  rw [ByteArray.size_append, show (⟨#[60, 97, 62]⟩ : ByteArray).size = 3 from rfl]; omega
theorem big5 (s : ByteArray) (h : s.size ≤ 1000) : ¬ 9223372036854775807 < 3 + s.size + 4 := by omega
theorem deep_walk (F : Nat → ByteArray) (T : Bool → ByteArray) (D : Bool → PT) (n sp : Int) (j : Nat) (w : World) (hE : Env w)
    (hj : (n.tmod 100 + 100).tmod 100 = (j : Int)) (hF0 : F 0 = ⟨#[120]⟩) (hFs : ∀ i, (⟨#[60, 97, 62]⟩ : ByteArray) ++ F i ++ ⟨#[60, 47, 97, 62]⟩ = F (i + 1)) (hFz : ∀ i, i ≤ 100 → (F i).size ≤ 1000)
    (hT1 : F (j + 1) ++ (⟨#[60, 33, 45, 45, 45, 45, 62]⟩ : ByteArray) = T true) (hT0 : F (j + 1) = T false)
    (hR : ∀ b, j ≤ 62 → (D b).right 0 = true ∧ (D b).fit)
    (hP : ∀ (b : Bool) W, Below w.heap.size w W → Calls Tryz.prog 9 #[.string (T b)] W (PvPost (if j ≤ 62 then .ok (D b) [] else .nest) W)) :
    Calls Tryz.prog 7 #[.int .i64 n, .int .i64 sp] w fun e w' => e = .returned (.bool true) ∧ Below w.heap.size w w' := by
  have HA := Lib.hid (awake_any w hE)
  have HP := Lib.hid hP
  have HR := Lib.hid hR
  have HF0 := Lib.hid hF0
  have HFs := Lib.hid hFs
  have HFz := Lib.hid hFz
  have HT1 := Lib.hid hT1
  have HT0 := Lib.hid hT0
  clear hP hR hF0 hFs hFz hT1 hT0
  obtain ⟨r1, hr1⟩ : ∃ r, n.tmod 100 = r := ⟨_, rfl⟩
  have h1a : r1 < 100 := by rw [← hr1]; exact Int.tmod_lt_of_pos n (by decide)
  have h1b : -100 < r1 := by rw [← hr1]; exact Int.lt_tmod_of_pos n (by decide)
  rw [hr1] at hj
  have hj2 : j < 100 := by have := Int.tmod_lt_of_pos (r1 + 100) (show (0 : Int) < 100 by decide); omega
  have v1 : wrap64 r1 = r1 := by unfold wrap64; omega
  have v2 : wrap64 (r1 + 100) = r1 + 100 := by unfold wrap64; omega
  have v3 : wrap64 (j : Int) = (j : Int) := by unfold wrap64; omega
  have v4 : wrap64 (1 + (j : Int)) = (j : Int) + 1 := by unfold wrap64; omega
  have HT : Hid (∀ W, Below w.heap.size w W → tabs W) := Lib.hid fun W hW => Utf8Tabs_below hE.1 hW
  have HJ := Lib.hid hj2
  clear hE h1a h1b hj2
  go_enter Tryz.func7, Tryz.ntmps7
  go_wp2_with fail
  refine HA.out.mono ?_
  rintro e w1 ⟨rfl, hb1⟩
  have HB1 := Lib.hid hb1
  clear hb1 HA
  go_wp2
  simp only [v4, v2]
  obtain ⟨K, hK⟩ : ∃ K : Nat, j + 1 = K := ⟨_, rfl⟩
  have hKi : (j : Int) + 1 = (K : Int) := by omega
  simp only [hKi]
  have HKK := Lib.hid hK
  clear hK hKi v1 v2 v3 v4 hr1 hj
  go_loopw [6, 7] (fun s6 s7 wx => ∃ i : Nat, s6 = .string (F i) ∧ s7 = .int .i64 (i : Nat) ∧ i ≤ K ∧ Below w1.heap.size w1 wx) (fun _ s7 _ => K - (intOf s7).toNat)
  case atStart => exact ⟨0, by rw [HF0.out], rfl, Nat.zero_le _, Below.refl _ _⟩
  case round =>
    obtain ⟨i, rfl, rfl, hi, hB⟩ := hrel
    have HBJ := Lib.hid (bt HB1.out hB)
    have HB := Lib.hid hB
    clear hB
    by_cases hlt : i < K
    · have q1 : decide ((i : Int) < (K : Int)) = true := decide_eq_true (by omega)
      have q1' : decide (i < K) = true := decide_eq_true hlt
      have vi : wrap64 ((i : Int) + 1) = (i : Int) + 1 := by have := HJ.out; have := HKK.out; unfold wrap64; omega
      have hle : (F i).size ≤ 1000 := HFz.out i (by have := HKK.out; have := HJ.out; omega)
      have hds := Lib.hid (HFs.out i)
      have hi1 := Lib.hid hlt
      clear hlt hi
      obtain ⟨tx, htx⟩ : ∃ t, F i = t := ⟨_, rfl⟩
      rw [htx] at hle hds ⊢
      have g1 := big3 _ hle
      have g2 := big4 _ hle
      have g3 := big5 _ hle
      have g4 : ¬ 9223372036854775807 < tx.size + 7 := by omega
      have g5 : ¬ 9223372036854775807 < 3 + (tx.size + 4) := by omega
      have g6 : ¬ 9223372036854775807 < tx.size + 3 := by omega
      clear hle
      go_upto_region 7 with fail
      rw [hds.out]
      obtain ⟨ty, hty⟩ : ∃ t, F (i + 1) = t := ⟨_, rfl⟩
      rw [hty]
      clear g1 g2 g3 g4 g5 g6 hds htx
      go_wp2
      simp only [vi]
      go_roundw
      case measure => simp [intOf]; have := hi1.out; omega
      case rel => exact ⟨i + 1, by rw [hty], by simp, hi1.out, HB.out⟩
    · obtain rfl : i = K := by omega
      clear hlt hi
      have q1 : decide ((i : Int) < (i : Int)) = false := decide_eq_false (by omega)
      have q1' : decide (i < i) = false := decide_eq_false (by omega)
      have hle : (F i).size ≤ 1000 := HFz.out i (by have := HKK.out; have := HJ.out; omega)
      have g7 : ¬ 9223372036854775807 < (F i).size + 7 := by omega
      have hk1 : F i ++ (⟨#[60, 33, 45, 45, 45, 45, 62]⟩ : ByteArray) = T true := by rw [← HKK.out]; exact HT1.out
      have hk0 : F i = T false := by rw [← HKK.out]; exact HT0.out
      obtain ⟨tx, htx⟩ : ∃ t, F i = t := ⟨_, rfl⟩
      rw [htx] at hle g7 hk1 hk0 ⊢
      have HK1 := Lib.hid hk1
      have HK0 := Lib.hid hk0
      clear hle htx hk1 hk0
      by_cases hsp : (sp.tmod 2 == 0) = true
      · go_wp2_with fail
        rw [HK1.out]
        refine (HP.out true _ HBJ.out).mono ?_
        rintro e w2 he
        by_cases h62 : j ≤ 62
        · rw [if_pos h62] at he
          obtain ⟨⟨t, rfl, hp, hin, _⟩, hb2⟩ := he
          obtain ⟨hr, hf⟩ := HR.out true h62
          rw [← hp] at hr hf
          have hT2 := HT.out _ (bt HBJ.out hb2)
          have HRT := Lib.hid (fun (W : World) (g : Nat) (h1 : Below w2.heap.size w2 W) (hg : g < W.heap.size) (hc : ∀ jj u, t.cells[jj]? = some u → W.cell? ⟨g, jj, none⟩ = some u) => right_one t (NewB wr w2) W g 1 (Utf8Tabs_below hT2 h1) (hin.below (fun _ h => h.2) h1) (fun _ h => Nat.lt_of_lt_of_le h.2 h1.size) hf hg hc)
          rw [hr] at HRT
          have HB2 := Lib.hid (bt HBJ.out hb2)
          clear hr hf hp hin hT2 hb2
          obtain ⟨tk, tn, tv, tA, tac, tps, tK, tkc, tks⟩ := t
          have HCE : Hid (∀ (w1 : World) (g : Nat), g = w1.heap.size → ∀ (jj : Nat) (u : Value), (Tr.mk tk tn tv tA tac tps tK tkc tks).cells[jj]? = some u → (w1.alloc (.cells #[.int .i64 tk, .string (ba' tn), .string (ba' tv), .slice tA tps.length tac, .slice tK tks.length tkc] 27)).cell? ⟨g, jj, none⟩ = some u) := Lib.hid fun w1 g hg jj u hu => by
            subst hg
            have := five_new w1 (.int .i64 tk) (.string (ba' tn)) (.string (ba' tv)) (.slice tA tps.length tac) (.slice tK tks.length tkc) 27 jj u hu
            have hj : ((⟨w1.heap.size, 0, none⟩ : Addr).add jj) = ⟨w1.heap.size, jj, none⟩ := by unfold Addr.add; split <;> simp_all
            rwa [hj] at this
          simp only [Tr.v]
          obtain ⟨np, hnp⟩ : ∃ q, tps.length = q := ⟨_, rfl⟩
          obtain ⟨nk, hnk⟩ : ∃ q, tks.length = q := ⟨_, rfl⟩
          rw [hnp, hnk] at HCE ⊢
          clear hnp hnk
          have q63 : decide ((63 : Int) < (i : Int)) = false := decide_eq_false (by have := HKK.out; omega)
          have q63' : decide ((i : Int) > 63) = false := q63
          go_wp2_with fail
          refine (HRT.out _ (w2.heap.size + 1) (by repeat (with_reducible (first | exact Below.refl _ _ | assumption | apply ba | apply bd | apply bdr | (refine bs ?_ (by first | assumption | (simp; done) | (simp; omega))) | (refine bt ?_ (by assumption))))) (by simp) (HCE.out _ _ (by simp))).mono ?_
          rintro e w3 ⟨rfl, hb3⟩
          have HB3 : Below w.heap.size w w3 := by have := HB2.out; repeat (with_reducible (first | assumption | apply ba | apply bd | apply bdr | (refine bt ?_ (by assumption))))
          clear hb3
          go_wp2
          go_ret
          exact ⟨rfl, HB3⟩
        · rw [if_neg h62] at he
          obtain ⟨rfl, hb2⟩ := he
          have q63 : decide ((63 : Int) < (i : Int)) = true := decide_eq_true (by have := HKK.out; omega)
          have q63' : decide ((i : Int) > 63) = true := q63
          have HB2 := Lib.hid (bt HBJ.out hb2)
          clear hb2
          go_wp2
          go_ret
          exact ⟨rfl, by have := HB2.out; repeat (with_reducible (first | assumption | apply ba | apply bd | apply bdr | (refine bs ?_ (by first | assumption | (simp; done) | (simp; omega)))))⟩
      · go_wp2_with fail
        rw [HK0.out]
        refine (HP.out false _ HBJ.out).mono ?_
        rintro e w2 he
        by_cases h62 : j ≤ 62
        · rw [if_pos h62] at he
          obtain ⟨⟨t, rfl, hp, hin, _⟩, hb2⟩ := he
          obtain ⟨hr, hf⟩ := HR.out false h62
          rw [← hp] at hr hf
          have hT2 := HT.out _ (bt HBJ.out hb2)
          have HRT := Lib.hid (fun (W : World) (g : Nat) (h1 : Below w2.heap.size w2 W) (hg : g < W.heap.size) (hc : ∀ jj u, t.cells[jj]? = some u → W.cell? ⟨g, jj, none⟩ = some u) => right_one t (NewB wr w2) W g 1 (Utf8Tabs_below hT2 h1) (hin.below (fun _ h => h.2) h1) (fun _ h => Nat.lt_of_lt_of_le h.2 h1.size) hf hg hc)
          rw [hr] at HRT
          have HB2 := Lib.hid (bt HBJ.out hb2)
          clear hr hf hp hin hT2 hb2
          obtain ⟨tk, tn, tv, tA, tac, tps, tK, tkc, tks⟩ := t
          have HCE : Hid (∀ (w1 : World) (g : Nat), g = w1.heap.size → ∀ (jj : Nat) (u : Value), (Tr.mk tk tn tv tA tac tps tK tkc tks).cells[jj]? = some u → (w1.alloc (.cells #[.int .i64 tk, .string (ba' tn), .string (ba' tv), .slice tA tps.length tac, .slice tK tks.length tkc] 27)).cell? ⟨g, jj, none⟩ = some u) := Lib.hid fun w1 g hg jj u hu => by
            subst hg
            have := five_new w1 (.int .i64 tk) (.string (ba' tn)) (.string (ba' tv)) (.slice tA tps.length tac) (.slice tK tks.length tkc) 27 jj u hu
            have hj : ((⟨w1.heap.size, 0, none⟩ : Addr).add jj) = ⟨w1.heap.size, jj, none⟩ := by unfold Addr.add; split <;> simp_all
            rwa [hj] at this
          simp only [Tr.v]
          obtain ⟨np, hnp⟩ : ∃ q, tps.length = q := ⟨_, rfl⟩
          obtain ⟨nk, hnk⟩ : ∃ q, tks.length = q := ⟨_, rfl⟩
          rw [hnp, hnk] at HCE ⊢
          clear hnp hnk
          have q63 : decide ((63 : Int) < (i : Int)) = false := decide_eq_false (by have := HKK.out; omega)
          have q63' : decide ((i : Int) > 63) = false := q63
          go_wp2_with fail
          refine (HRT.out _ (w2.heap.size + 1) (by repeat (with_reducible (first | exact Below.refl _ _ | assumption | apply ba | apply bd | apply bdr | (refine bs ?_ (by first | assumption | (simp; done) | (simp; omega))) | (refine bt ?_ (by assumption))))) (by simp) (HCE.out _ _ (by simp))).mono ?_
          rintro e w3 ⟨rfl, hb3⟩
          have HB3 : Below w.heap.size w w3 := by have := HB2.out; repeat (with_reducible (first | assumption | apply ba | apply bd | apply bdr | (refine bt ?_ (by assumption))))
          clear hb3
          go_wp2
          go_ret
          exact ⟨rfl, HB3⟩
        · rw [if_neg h62] at he
          obtain ⟨rfl, hb2⟩ := he
          have q63 : decide ((63 : Int) < (i : Int)) = true := decide_eq_true (by have := HKK.out; omega)
          have q63' : decide ((i : Int) > 63) = true := q63
          have HB2 := Lib.hid (bt HBJ.out hb2)
          clear hb2
          go_wp2
          go_ret
          exact ⟨rfl, by have := HB2.out; repeat (with_reducible (first | assumption | apply ba | apply bd | apply bdr | (refine bs ?_ (by first | assumption | (simp; done) | (simp; omega)))))⟩
end Go.Proofs.YtpdaldpaceolnaaGreatDoor
namespace Go.Proofs.YtpdaldpaceolnaaGreatDoor
open Go.RowKit Go.Lib
set_option maxRecDepth 100000
set_option maxHeartbeats 4000000
theorem deep_law (n sp : Int) (w : World) (hE : Env w) : Calls Tryz.prog 7 #[.int .i64 n, .int .i64 sp] w fun e w' => e = .returned (.bool true) ∧ Below w.heap.size w w' := by
  obtain ⟨r1, hr1⟩ : ∃ r, n.tmod 100 = r := ⟨_, rfl⟩
  have h1a : r1 < 100 := by rw [← hr1]; exact Int.tmod_lt_of_pos n (by decide)
  have h1b : -100 < r1 := by rw [← hr1]; exact Int.lt_tmod_of_pos n (by decide)
  obtain ⟨j, hj⟩ : ∃ j : Nat, (r1 + 100).tmod 100 = (j : Int) := ⟨((r1 + 100).tmod 100).toNat, by have := Int.tmod_nonneg 100 (show 0 ≤ r1 + 100 by omega); omega⟩
  have hj2 : j < 100 := by have := Int.tmod_lt_of_pos (r1 + 100) (show (0 : Int) < 100 by decide); omega
  refine deep_walk (fun i => ba' (deepS i)) (fun b => ba' (deepS (j + 1) ++ tailL b)) (fun b => .mk 1 [] [] [] ([deepP (j + 1)] ++ tailP b)) n sp j w hE (by rw [hr1, hj]) rfl ?_ ?_ ?_ ?_ ?_ ?_
  · intro i
    show ba' opA ++ ba' (deepS i) ++ ba' clA = _
    rw [ba_app, ba_app]
    rfl
  · intro i hi
    show (ba' (deepS i)).size ≤ 1000
    rw [size_ba, deepS_len]; omega
  · show ba' (deepS (j + 1)) ++ ba' tailS = ba' (deepS (j + 1) ++ tailL true)
    rw [ba_app]
    rfl
  · show ba' (deepS (j + 1)) = ba' (deepS (j + 1) ++ [])
    rw [List.append_nil]
  · intro b h
    exact ⟨doc_right j b h, doc_fit j b h⟩
  · intro b W hW
    have h := parse_valid (deepS (j + 1) ++ tailL b) (by rw [List.length_append, deepS_len]; cases b <;> simp [tailL, tailS] <;> omega) (deep_valid' (j + 1) b) W (hE.below hW)
    rw [deep_lines, deep_doc] at h
    exact h
end Go.Proofs.YtpdaldpaceolnaaGreatDoor
