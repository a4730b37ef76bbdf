/- The statement LexTokens: its walk. No condition beyond what the theorems state. -/
import Derived.Test.YtolkfhiominjbaaGreatDoorRefSmall
import Derived.Test.YtolkfhiominjbaaGreatDoorRefAll
import Derived.Test.YtolkfhiominjbaaGreatDoorRegD
import Derived.Test.YtolkfhiominjbaaGreatDoorLwApart
namespace Go.Proofs.YtolkfhiominjbaaGreatDoor
open Go.RowKit Go.Lib
set_option maxRecDepth 100000
set_option maxHeartbeats 16000000
theorem allGo_pre : ∀ (f : Nat) (s : List UInt8) (cur : Option Tk) (acc L : List Tk), allGo f s cur acc = some L → ∃ M, L = acc ++ M
  | 0, _, _, _, _, h => by cases h
  | _ + 1, _, none, _, _, h => by cases h
  | f + 1, s, some t, acc, L, h => by
    unfold allGo at h
    split at h
    · cases h
      exact ⟨[], (List.append_nil _).symm⟩
    · obtain ⟨M, hM⟩ := allGo_pre f s _ _ L h
      exact ⟨t :: M, by rw [hM, List.append_assoc]; rfl⟩
/-- The tokens of a text from a place on, where so many are known. -/
def Left (s : List UInt8) (i n : Nat) : Prop := ∃ (f : Nat) (acc : List Tk), s.length + 2 ≤ i + f ∧ acc.length = n ∧ allGo f s (nextF s i) acc = allF s
theorem left_none {s : List UInt8} {i n : Nat} (h : Left s i n) (hi : i ≤ s.length) (hn : nextF s i = none) : allF s = none := by
  obtain ⟨f, acc, h1, _, h3⟩ := h
  rw [hn] at h3
  obtain ⟨f, rfl⟩ : ∃ f', f = f' + 1 := ⟨f - 1, by omega⟩
  exact h3.symm
theorem left_end {s : List UInt8} {i n : Nat} {t : Tk} (h : Left s i n) (hi : i ≤ s.length) (hn : nextF s i = some t) (hk : t.k = 0) : ∃ L, allF s = some L ∧ L.length = n := by
  obtain ⟨f, acc, h1, h2, h3⟩ := h
  rw [hn] at h3
  obtain ⟨f, rfl⟩ : ∃ f', f = f' + 1 := ⟨f - 1, by omega⟩
  unfold allGo at h3
  rw [if_pos hk] at h3
  exact ⟨acc, h3.symm, h2⟩
theorem left_next {s : List UInt8} {i n : Nat} {t : Tk} (h : Left s i n) (hi : i ≤ s.length) (hn : nextF s i = some t) (hk : t.k ≠ 0) : Left s t.b (n + 1) ∧ i < t.b ∧ t.b ≤ s.length ∧ ∀ L, allF s = some L → L[n]? = some t := by
  obtain ⟨f, acc, h1, h2, h3⟩ := h
  obtain ⟨g1, g2, g3, g4⟩ := nextF_b hi hn
  have g5 := g4 hk
  rw [hn] at h3
  obtain ⟨f, rfl⟩ : ∃ f', f = f' + 1 := ⟨f - 1, by omega⟩
  unfold allGo at h3
  rw [if_neg hk] at h3
  refine ⟨⟨f, acc ++ [t], by omega, by rw [List.length_append, h2]; rfl, h3⟩, by omega, g3, fun L hL => ?_⟩
  rw [hL] at h3
  obtain ⟨M, hM⟩ := allGo_pre f s _ _ L h3
  rw [hM, List.append_assoc, List.getElem?_append_right (by omega), h2, Nat.sub_self]
  rfl
theorem tokV_eq (r : Option Tk) : tokV r = .tuple #[.agg #[.int .i64 ((tkOf r).k : Nat), .string (ba' (tkOf r).x), .int .i64 ((tkOf r).a : Nat), .int .i64 ((tkOf r).b : Nat)], .bool r.isSome] := by
  cases r <;> rfl
/-- The first part of the law: Next at one place; the rest is handed in. -/
theorem tokens_walk (s : List UInt8) (at' : Int) (w : World) (hs : s.length ≤ maxLen) (hE : Env w) :
    Calls Tryz.prog 3 #[.string (ba' s), .int .i64 at'] w fun e w' => e = .returned (.bool true) ∧ Below w.heap.size w w' := by
  have HAW : Hid (∀ W1 : World, Below w.heap.size w W1 → Calls Tryz.prog 6 #[] W1 fun e w' => e = .returned (.bool true) ∧ Below W1.heap.size W1 w') := Lib.hid fun W1 h => by
    have hE1 := hE.below h
    obtain ⟨h1, ⟨v, hv⟩, _⟩ := id hE1
    exact awake_any W1 h1 v hv
  have HAL : Hid (∀ W1 : World, Below w.heap.size w W1 → Calls Tryz.prog 10 #[.string (ba' s)] W1 fun e w' => LPost W1 (allR s) (allE s) e w' ∧ Below W1.heap.size W1 w') := Lib.hid fun W1 h => All_any s hs W1 (hE.below h)
  have HNX : Hid (∀ W1 : World, Below w.heap.size w W1 → Calls Tryz.prog 7 #[.string (ba' s), .int .i64 at'] W1 fun e w' => XPost s at' e ∧ Below W1.heap.size W1 w') := Lib.hid fun W1 h => lexNext_any s hs at' W1 (hE.below h)
  clear hE
  have s1 : (ba' s).size = s.length := size_ba s
  go_enter Tryz.func3, Tryz.ntmps3
  go_wp2_with fail
  refine (HAW.out w (Below.refl _ _)).mono ?_
  rintro e w1 ⟨rfl, hb1⟩
  have HB1 := Lib.hid hb1
  clear hb1
  by_cases h1 : 3000 < s.length
  · have g0 : decide ((s.length : Int) > 3000) = true := by simp; omega
    have g0' : decide ((3000 : Int) < (s.length : Int)) = true := by simp; omega
    have g0'' : decide (3000 < s.length) = true := by simpa using h1
    go_wp2_with fail
    refine (HAW.out w1 HB1.out).mono ?_
    rintro e w2 ⟨rfl, hb2⟩
    have HB2 := Lib.hid (bt HB1.out hb2)
    clear hb2
    go_wp2
    go_ret
    exact ⟨rfl, HB2.out⟩
  have g0 : decide ((s.length : Int) > 3000) = false := by simp; omega
  have g0' : decide ((3000 : Int) < (s.length : Int)) = false := by simp; omega
  have g0'' : decide (3000 < s.length) = false := by simp; omega
  have HF1 : Hid (∀ (p : Int) (W : World), Calls Tryz.prog 8 #[.string (ba' s), .int .i64 p] W fun e w' => e = .returned (.bool (okT s p)) ∧ Below W.heap.size W w') := Lib.hid fun p W => fine_any s (by omega) p W
  have HRF : Hid (validX s = true → ∀ (i : Nat), i ≤ s.length → ∀ W : World, Calls Tryz.prog 9 #[.string (ba' s), .int .i64 (i : Nat)] W fun e w' => e = .returned (.tuple #[.agg #[.int .i64 ((tkOf (nextF s i)).k : Nat), .string (ba' (tkOf (nextF s i)).x), .int .i64 ((tkOf (nextF s i)).a : Nat), .int .i64 ((tkOf (nextF s i)).b : Nat)], .bool (nextF s i).isSome]) ∧ Below W.heap.size W w') := Lib.hid fun hv i hi W => by
    have h := nextR_any s (by omega) hv i hi W
    rw [tokV_eq] at h
    exact h
  have hnx := HNX.out w1 HB1.out
  unfold XPost at hnx
  cases hok : okT s at' with
  | false =>
    rw [hok] at hnx
    have HN : Hid (Calls Tryz.prog 7 #[.string (ba' s), .int .i64 at'] w1 fun e w' => e = .returned (.tuple #[.agg #[.int .i64 0, .string ⟨#[]⟩, .int .i64 0, .int .i64 0], .int .i64 2]) ∧ Below w1.heap.size w1 w') := Lib.hid hnx
    have HF3 : Hid (∀ W : World, Calls Tryz.prog 8 #[.string (ba' s), .int .i64 at'] W fun e w' => e = .returned (.bool false) ∧ Below W.heap.size W w') := Lib.hid fun W => by
      have h := HF1.out at' W
      rwa [hok] at h
    clear hnx hok HNX
    go_wp2_with fail
    refine HN.out.mono ?_
    rintro e w2 ⟨rfl, hb2⟩
    have HB2 : Hid (Below w.heap.size w w2) := Lib.hid (bt HB1.out hb2)
    clear hb2
    go_wp2_with fail
    refine (HF3.out _).mono ?_
    rintro e w3 ⟨rfl, hb3⟩
    have HB3 : Hid (Below w.heap.size w w3) := Lib.hid (bt (ba HB2.out) hb3)
    have d0 : w3.cell? ⟨w2.heap.size, 0, none⟩ = some (.int .i64 0) := (hb3.cell (p := ⟨w2.heap.size, 0, none⟩) (by simp)).trans (by simp)
    have d1 : w3.cell? ⟨w2.heap.size, 1, none⟩ = some (.string ⟨#[]⟩) := (hb3.cell (p := ⟨w2.heap.size, 1, none⟩) (by simp)).trans (by simp)
    have d2 : w3.cell? ⟨w2.heap.size, 2, none⟩ = some (.int .i64 0) := (hb3.cell (p := ⟨w2.heap.size, 2, none⟩) (by simp)).trans (by simp)
    have d3 : w3.cell? ⟨w2.heap.size, 3, none⟩ = some (.int .i64 0) := (hb3.cell (p := ⟨w2.heap.size, 3, none⟩) (by simp)).trans (by simp)
    clear hb3
    have HBR := HB3
    have hal := HAL.out _ HBR.out
    cases hok0 : okT s 0 with
    | false =>
      have hr0 : allR s = none := by unfold allR; rw [hok0]; rfl
      have he0 : allE s = 2 := by unfold allE; rw [hok0]; rfl
      rw [hr0, he0] at hal
      have HF2 : Hid (∀ W : World, Calls Tryz.prog 8 #[.string (ba' s), .int .i64 0] W fun e w' => e = .returned (.bool false) ∧ Below W.heap.size W w') := Lib.hid fun W => by
        have h := HF1.out 0 W
        rwa [hok0] at h
      have HA := Lib.hid hal
      clear hal
      go_wp2_with fail
      refine HA.out.mono ?_
      rintro e w5 ⟨he, hb5⟩
      obtain rfl : e = _ := he
      have HB5 : Hid (Below w.heap.size w w5) := Lib.hid (bt HBR.out hb5)
      clear hb5
      go_wp2_with fail
      refine (HF2.out _).mono ?_
      rintro e w6 ⟨rfl, hb6⟩
      have HB6 : Hid (Below w.heap.size w w6) := Lib.hid (bt HB5.out hb6)
      clear hb6
      go_wp2
      go_ret
      exact ⟨rfl, HB6.out⟩
    | true =>
      have hr0 : allR s = allF s := by unfold allR; rw [hok0]; rfl
      have he0 : allE s = if (allF s).isSome = true then 0 else 40 := by unfold allE; rw [hok0]; rfl
      have hvx : validX s = true := by
        unfold okT at hok0
        simp only [Bool.and_eq_true] at hok0
        exact hok0.2
      have HR2 := Lib.hid (HRF.out hvx)
      have HLF : Hid (Left s 0 0) := Lib.hid ⟨s.length + 2, [], by omega, rfl, rfl⟩
      rw [hr0, he0] at hal
      have HF2 : Hid (∀ W : World, Calls Tryz.prog 8 #[.string (ba' s), .int .i64 0] W fun e w' => e = .returned (.bool true) ∧ Below W.heap.size W w') := Lib.hid fun W => by
        have h := HF1.out 0 W
        rwa [hok0] at h
      cases hall : allF s with
      | none =>
        rw [hall] at hal
        have HALL := Lib.hid hall
        have HA := Lib.hid hal
        clear hal hr0 he0 hok0 hvx hall
        go_wp2_with fail
        refine HA.out.mono ?_
        rintro e w5 ⟨he, hb5⟩
        obtain rfl : e = _ := he
        have HB5 : Hid (Below w.heap.size w w5) := Lib.hid (bt HBR.out hb5)
        clear hb5
        go_wp2_with fail
        refine (HF2.out _).mono ?_
        rintro e w6 ⟨rfl, hb6⟩
        have HB6 : Hid (Below w.heap.size w w6) := Lib.hid (bt HB5.out hb6)
        clear hb6
        go_wp2
        go_loopw [11, 12] (fun s11 s12 wx => ∃ (n i : Nat), s11 = .int .i64 (n : Nat) ∧ s12 = .int .i64 (i : Nat) ∧ i ≤ s.length ∧ n ≤ i ∧ Hid (Left s i n) ∧ Hid (Below w.heap.size w wx)) (fun _ s12 _ => s.length - (intOf s12).toNat)
        case atStart => exact ⟨0, 0, rfl, rfl, by omega, by omega, HLF, HB6⟩
        case round =>
          obtain ⟨n, i, rfl, rfl, hi, hni, HL, HBW⟩ := hrel
          have HC := Lib.hid (HR2.out i hi)
          cases hn : nextF s i with
          | none =>
            rw [hn] at HC
            clear HL hn
            go_wp2_with fail
            refine (HC.out _).mono ?_
            rintro e w7 ⟨rfl, hb7⟩
            have HB7 : Hid (Below w.heap.size w w7) := Lib.hid (bt HBW.out hb7)
            clear hb7
            go_wp2
            go_ret
            exact ⟨rfl, by have h := HB7.out; repeat (with_reducible (first | assumption | exact ba h))⟩
          | some t =>
            have hk0 : t.k ≠ 0 := by
              intro e
              obtain ⟨L, h1, _⟩ := left_end HL.out hi hn e
              rw [HALL.out] at h1
              cases h1
            obtain ⟨hL2, hb1, hb2, _⟩ := left_next HL.out hi hn hk0
            rw [hn] at HC
            have HL2 := Lib.hid hL2
            obtain ⟨k, x, a, b⟩ := t
            simp only at hk0 hb1 hb2 HL2 hL2
            have q0 : ((k : Int) == 0) = false := by rw [beq_eq_false_iff_ne]; omega
            have HC2 : Hid (∀ W : World, Calls Tryz.prog 9 #[.string (ba' s), .int .i64 (i : Nat)] W fun e w' => e = .returned (.tuple #[.agg #[.int .i64 (k : Nat), .string (ba' x), .int .i64 (a : Nat), .int .i64 (b : Nat)], .bool true]) ∧ Below W.heap.size W w') := HC
            clear HL hn hL2 HC
            go_wp2_with fail
            refine (HC2.out _).mono ?_
            rintro e w7 ⟨rfl, hb7⟩
            have HB7 : Hid (Below w.heap.size w w7) := Lib.hid (bt HBW.out hb7)
            clear hb7
            go_upto_region 19 with fail
            go_cut [111] (fun s111 wx => s111 = .bool false ∧ Below (w7.alloc (.cells #[.int .i64 (k : Nat), .string (ba' x), .int .i64 (a : Nat), .int .i64 (b : Nat)] 25)).heap.size (w7.alloc (.cells #[.int .i64 (k : Nat), .string (ba' x), .int .i64 (a : Nat), .int .i64 (b : Nat)] 25)) wx)
            case first =>
              rename_i J K' hJ hK'
              refine V18_region 40 _ _ _ _ _ _ _ _ _ _ _ _ _ _ _ _ _ _ _ _ _ _ _ _ _ _ _ _ _ _ _ _ _ _ _ _ _ _ _ _ _ _ _ _ _ _ _ _ _ _ _ _ _ _ _ _ _ _ _ _ _ _ _ _ _ _ _ _ _ _ _ _ _ _ _ _ _ _ _ _ _ _ _ _ _ _ _ _ _ _ _ _ _ _ _ _ _ _ _ _ _ _ _ _ _ _ _ _ _ _ _ _ _ _ _ _ _ _ _ _ _ _ _ _ _ _ (Below.refl _ _) rfl rfl ?_
              intro w' _ hb
              refine hK' _ _ (Met.intro (hJ _ _ ?_))
              (repeat apply Exists.intro)
              refine ⟨?_, rfl⟩
              exact ⟨rfl, hb⟩
            case rest =>
              obtain ⟨rfl, hbc⟩ := hcut
              have HBC : Hid (Below w.heap.size w wc) := Lib.hid (bt (ba HB7.out) hbc)
              have m3 : wc.cell? ⟨w7.heap.size, 3, none⟩ = some (.int .i64 (b : Nat)) := (hbc.cell (p := ⟨w7.heap.size, 3, none⟩) (by simp)).trans (by simp)
              clear hbc
              go_wp2
              go_roundw
              case rel => exact ⟨n + 1, b, by go_num, rfl, by omega, by omega, HL2, HBC⟩
              case measure => simp [intOf]; omega
      | some L =>
        rw [hall] at hal
        have HALL := Lib.hid hall
        have HA := Lib.hid hal
        clear hal hr0 he0 hok0 hvx hall
        go_wp2_with fail
        refine HA.out.mono ?_
        rintro e w5 ⟨⟨A5, c5, base5, rfl, hbase5, hown5⟩, hb5⟩
        have HB5 : Hid (Below w.heap.size w w5) := Lib.hid (bt HBR.out hb5)
        obtain ⟨m, hm⟩ : ∃ m, L.length = m := ⟨_, rfl⟩
        have HM := Lib.hid hm
        rw [hm] at hown5 ⊢
        have HO := Lib.hid hown5
        clear hb5 hown5 hbase5 hm
        go_wp2_with fail
        refine (HF2.out _).mono ?_
        rintro e w6 ⟨rfl, hb6⟩
        have HB56 := Lib.hid hb6
        have HB6 : Hid (Below w.heap.size w w6) := Lib.hid (bt HB5.out hb6)
        clear hb6
        go_wp2
        go_loopw [11, 12] (fun s11 s12 wx => ∃ (n i : Nat), s11 = .int .i64 (n : Nat) ∧ s12 = .int .i64 (i : Nat) ∧ i ≤ s.length ∧ n ≤ i ∧ Hid (Left s i n) ∧ Hid (Below w.heap.size w wx) ∧ Hid (Below w5.heap.size w5 wx)) (fun _ s12 _ => s.length - (intOf s12).toNat)
        case atStart => exact ⟨0, 0, rfl, rfl, by omega, by omega, HLF, HB6, HB56⟩
        case round =>
          obtain ⟨n, i, rfl, rfl, hi, hni, HL, HBW, HB5W⟩ := hrel
          have HC := Lib.hid (HR2.out i hi)
          cases hn : nextF s i with
          | none =>
            exact absurd ((left_none HL.out hi hn).symm.trans HALL.out) (by simp)
          | some t =>
            rw [hn] at HC
            by_cases hk0 : t.k = 0
            · obtain ⟨L2, h1, h2⟩ := left_end HL.out hi hn hk0
              have hnm : n = m := by
                have h3 := h1.symm.trans HALL.out
                cases h3
                rw [← h2, HM.out]
              subst hnm
              obtain ⟨k, x, a, b⟩ := t
              simp only at hk0
              subst hk0
              have HC2 : Hid (∀ W : World, Calls Tryz.prog 9 #[.string (ba' s), .int .i64 (i : Nat)] W fun e w' => e = .returned (.tuple #[.agg #[.int .i64 0, .string (ba' x), .int .i64 (a : Nat), .int .i64 (b : Nat)], .bool true]) ∧ Below W.heap.size W w') := HC
              clear HL hn HC h1 h2
              go_wp2_with fail
              refine (HC2.out _).mono ?_
              rintro e w7 ⟨rfl, hb7⟩
              have HB7 : Hid (Below w.heap.size w w7) := Lib.hid (bt HBW.out hb7)
              clear hb7
              go_wp2
              go_ret
              exact ⟨rfl, by have h := HB7.out; repeat (with_reducible (first | assumption | exact ba h))⟩
            · obtain ⟨hL2, hb1, hb2, hat⟩ := left_next HL.out hi hn hk0
              have hLn := hat L HALL.out
              have HL2 := Lib.hid hL2
              obtain ⟨ka, kb⟩ := cellsK_four L n t hLn
              obtain ⟨kc, kd⟩ := cellsK_at L n t hLn
              have hnm : n < m := by
                rw [← HM.out]
                exact (List.getElem?_eq_some_iff.1 hLn).1
              obtain ⟨k, x, a, b⟩ := t
              simp only at hk0 hb1 hb2 HL2 hL2 ka kb kc kd
              obtain ⟨g, rfl, hg0, hg1, hgx⟩ := row_cells4 HO.out (by omega)
              have q0 : ((k : Int) == 0) = false := by rw [beq_eq_false_iff_ne]; omega
              have p0 : decide ((m : Int) ≤ (n : Int)) = false := by simp; omega
              have p1 : decide (m ≤ n) = false := by simp; omega
              have HC2 : Hid (∀ W : World, Calls Tryz.prog 9 #[.string (ba' s), .int .i64 (i : Nat)] W fun e w' => e = .returned (.tuple #[.agg #[.int .i64 (k : Nat), .string (ba' x), .int .i64 (a : Nat), .int .i64 (b : Nat)], .bool true]) ∧ Below W.heap.size W w') := HC
              have HX : Hid (∀ W, Below w5.heap.size w5 W → W.cell? ⟨g, n * 4, none⟩ = some (.int .i64 (k : Nat)) ∧ W.cell? ⟨g, n * 4 + 1, none⟩ = some (.string (ba' x)) ∧ W.cell? ⟨g, n * 4 + 2, none⟩ = some (.int .i64 (a : Nat)) ∧ W.cell? ⟨g, n * 4 + 3, none⟩ = some (.int .i64 (b : Nat))) := Lib.hid fun W hW =>
                ⟨(hW.cell (p := ⟨g, n * 4, none⟩) hg1).trans (hgx _ _ ka), (hW.cell (p := ⟨g, n * 4 + 1, none⟩) hg1).trans (hgx _ _ kb), (hW.cell (p := ⟨g, n * 4 + 2, none⟩) hg1).trans (hgx _ _ kc), (hW.cell (p := ⟨g, n * 4 + 3, none⟩) hg1).trans (hgx _ _ kd)⟩
              clear HL hn HC hL2 hat hLn ka kb kc kd hgx
              go_wp2_with fail
              refine (HC2.out _).mono ?_
              rintro e w7 ⟨rfl, hb7⟩
              have HB7 : Hid (Below w.heap.size w w7) := Lib.hid (bt HBW.out hb7)
              have HB57 : Hid (Below w5.heap.size w5 w7) := Lib.hid (bt HB5W.out hb7)
              clear hb7
              obtain ⟨c0, c1, c2, c3⟩ := HX.out _ (ba (o := .cells #[.int .i64 (k : Nat), .string (ba' x), .int .i64 (a : Nat), .int .i64 (b : Nat)] 25) HB57.out)
              go_upto_region 19 with fail
              go_cut [111] (fun s111 wx => s111 = .bool false ∧ Below (w7.alloc (.cells #[.int .i64 (k : Nat), .string (ba' x), .int .i64 (a : Nat), .int .i64 (b : Nat)] 25)).heap.size (w7.alloc (.cells #[.int .i64 (k : Nat), .string (ba' x), .int .i64 (a : Nat), .int .i64 (b : Nat)] 25)) wx)
              case first =>
                rename_i J K' hJ hK'
                refine V19_region g w7.heap.size n m k a b c5 x _ _ _ _ _ _ _ _ _ _ _ _ _ _ _ _ _ _ _ _ _ _ _ _ _ _ _ _ _ _ _ _ _ _ _ _ _ _ _ _ _ _ _ _ _ _ _ _ _ _ _ _ _ _ _ _ _ _ _ _ _ _ _ _ _ _ _ _ _ _ _ _ _ _ _ _ _ _ _ _ _ _ _ _ _ _ _ _ _ _ _ _ _ _ _ _ _ _ _ _ _ _ _ _ _ _ _ _ _ _ _ _ _ _ _ _ _ _ _ _ _ _ _ (Below.refl _ _) c0 c1 c2 c3 (by simp) (by simp) (by simp) (by simp) hnm p0 p1 ?_
                intro w' _ hb
                refine hK' _ _ (Met.intro (hJ _ _ ?_))
                (repeat apply Exists.intro)
                refine ⟨?_, rfl⟩
                exact ⟨rfl, hb⟩
              case rest =>
                obtain ⟨rfl, hbc⟩ := hcut
                have HBC : Hid (Below w.heap.size w wc) := Lib.hid (bt (ba HB7.out) hbc)
                have HBD : Hid (Below w5.heap.size w5 wc) := Lib.hid (bt (ba HB57.out) hbc)
                have m3 : wc.cell? ⟨w7.heap.size, 3, none⟩ = some (.int .i64 (b : Nat)) := (hbc.cell (p := ⟨w7.heap.size, 3, none⟩) (by simp)).trans (by simp)
                clear hbc c0 c1 c2 c3
                go_wp2
                go_roundw
                case rel => exact ⟨n + 1, b, by go_num, rfl, by omega, by omega, HL2, HBC, HBD⟩
                case measure => simp [intOf]; omega
  | true =>
    rw [hok] at hnx
    have hp := hok
    unfold okT at hp
    simp only [Bool.and_eq_true, decide_eq_true_eq] at hp
    obtain ⟨⟨⟨p1, p2⟩, p3⟩, p4⟩ := hp
    obtain ⟨q, rfl⟩ : ∃ q : Nat, at' = (q : Int) := ⟨at'.toNat, by omega⟩
    have hq : q ≤ s.length := by omega
    have HR3 := Lib.hid (HRF.out p4 q hq)
    have HF3 : Hid (∀ W : World, Calls Tryz.prog 8 #[.string (ba' s), .int .i64 (q : Int)] W fun e w' => e = .returned (.bool true) ∧ Below W.heap.size W w') := Lib.hid fun W => by
      have h := HF1.out (q : Int) W
      rwa [hok] at h
    simp only [if_true, Int.toNat_natCast] at hnx
    cases hn : nextF s q with
    | none =>
      rw [hn] at hnx HR3
      have HN : Hid (Calls Tryz.prog 7 #[.string (ba' s), .int .i64 (q : Int)] w1 fun e w' => e = .returned (.tuple #[.agg #[.int .i64 0, .string ⟨#[]⟩, .int .i64 0, .int .i64 0], .int .i64 40]) ∧ Below w1.heap.size w1 w') := Lib.hid hnx
      have HR4 : Hid (∀ W : World, Calls Tryz.prog 9 #[.string (ba' s), .int .i64 (q : Nat)] W fun e w' => e = .returned (.tuple #[.agg #[.int .i64 0, .string ⟨#[]⟩, .int .i64 0, .int .i64 0], .bool false]) ∧ Below W.heap.size W w') := HR3
      clear hnx hok HNX HR3 hn p1 p2 p3 p4
      go_wp2_with fail
      refine HN.out.mono ?_
      rintro e w2 ⟨rfl, hb2⟩
      have HB2 : Hid (Below w.heap.size w w2) := Lib.hid (bt HB1.out hb2)
      clear hb2
      go_wp2_with fail
      refine (HF3.out _).mono ?_
      rintro e w3 ⟨rfl, hb3⟩
      have HB3 : Hid (Below w.heap.size w w3) := Lib.hid (bt (ba HB2.out) hb3)
      have HZ3 : Hid (w2.heap.size < w3.heap.size) := Lib.hid (by have := hb3.size; simp at this; omega)
      have d0 : w3.cell? ⟨w2.heap.size, 0, none⟩ = some (.int .i64 0) := (hb3.cell (p := ⟨w2.heap.size, 0, none⟩) (by simp)).trans (by simp)
      have d1 : w3.cell? ⟨w2.heap.size, 1, none⟩ = some (.string ⟨#[]⟩) := (hb3.cell (p := ⟨w2.heap.size, 1, none⟩) (by simp)).trans (by simp)
      have d2 : w3.cell? ⟨w2.heap.size, 2, none⟩ = some (.int .i64 0) := (hb3.cell (p := ⟨w2.heap.size, 2, none⟩) (by simp)).trans (by simp)
      have d3 : w3.cell? ⟨w2.heap.size, 3, none⟩ = some (.int .i64 0) := (hb3.cell (p := ⟨w2.heap.size, 3, none⟩) (by simp)).trans (by simp)
      clear hb3
      go_wp2_with fail
      refine (HR4.out _).mono ?_
      rintro e w4 ⟨rfl, hb4⟩
      have HB4 : Hid (Below w.heap.size w w4) := Lib.hid (bt HB3.out hb4)
      have HZ4 : Hid (w2.heap.size < w4.heap.size) := Lib.hid (zz hb4 HZ3.out)
      have f0 : w4.cell? ⟨w2.heap.size, 0, none⟩ = some (.int .i64 0) := (hb4.cell (p := ⟨w2.heap.size, 0, none⟩) HZ3.out).trans d0
      have f1 : w4.cell? ⟨w2.heap.size, 1, none⟩ = some (.string ⟨#[]⟩) := (hb4.cell (p := ⟨w2.heap.size, 1, none⟩) HZ3.out).trans d1
      have f2 : w4.cell? ⟨w2.heap.size, 2, none⟩ = some (.int .i64 0) := (hb4.cell (p := ⟨w2.heap.size, 2, none⟩) HZ3.out).trans d2
      have f3 : w4.cell? ⟨w2.heap.size, 3, none⟩ = some (.int .i64 0) := (hb4.cell (p := ⟨w2.heap.size, 3, none⟩) HZ3.out).trans d3
      have hz4 : w2.heap.size < w4.heap.size := HZ4.out
      clear hb4 d0 d1 d2 d3
      have HBR := Lib.hid (ba (o := .cells #[.int .i64 0, .string ⟨#[]⟩, .int .i64 0, .int .i64 0] 25) HB4.out)
      have hal := HAL.out _ HBR.out
      cases hok0 : okT s 0 with
      | false =>
        have hr0 : allR s = none := by unfold allR; rw [hok0]; rfl
        have he0 : allE s = 2 := by unfold allE; rw [hok0]; rfl
        rw [hr0, he0] at hal
        have HF2 : Hid (∀ W : World, Calls Tryz.prog 8 #[.string (ba' s), .int .i64 0] W fun e w' => e = .returned (.bool false) ∧ Below W.heap.size W w') := Lib.hid fun W => by
          have h := HF1.out 0 W
          rwa [hok0] at h
        have HA := Lib.hid hal
        clear hal
        go_wp2_with fail
        refine HA.out.mono ?_
        rintro e w5 ⟨he, hb5⟩
        obtain rfl : e = _ := he
        have HB5 : Hid (Below w.heap.size w w5) := Lib.hid (bt HBR.out hb5)
        clear hb5
        go_wp2_with fail
        refine (HF2.out _).mono ?_
        rintro e w6 ⟨rfl, hb6⟩
        have HB6 : Hid (Below w.heap.size w w6) := Lib.hid (bt HB5.out hb6)
        clear hb6
        go_wp2
        go_ret
        exact ⟨rfl, HB6.out⟩
      | true =>
        have hr0 : allR s = allF s := by unfold allR; rw [hok0]; rfl
        have he0 : allE s = if (allF s).isSome = true then 0 else 40 := by unfold allE; rw [hok0]; rfl
        have hvx : validX s = true := by
          unfold okT at hok0
          simp only [Bool.and_eq_true] at hok0
          exact hok0.2
        have HR2 := Lib.hid (HRF.out hvx)
        have HLF : Hid (Left s 0 0) := Lib.hid ⟨s.length + 2, [], by omega, rfl, rfl⟩
        rw [hr0, he0] at hal
        have HF2 : Hid (∀ W : World, Calls Tryz.prog 8 #[.string (ba' s), .int .i64 0] W fun e w' => e = .returned (.bool true) ∧ Below W.heap.size W w') := Lib.hid fun W => by
          have h := HF1.out 0 W
          rwa [hok0] at h
        cases hall : allF s with
        | none =>
          rw [hall] at hal
          have HALL := Lib.hid hall
          have HA := Lib.hid hal
          clear hal hr0 he0 hok0 hvx hall
          go_wp2_with fail
          refine HA.out.mono ?_
          rintro e w5 ⟨he, hb5⟩
          obtain rfl : e = _ := he
          have HB5 : Hid (Below w.heap.size w w5) := Lib.hid (bt HBR.out hb5)
          clear hb5
          go_wp2_with fail
          refine (HF2.out _).mono ?_
          rintro e w6 ⟨rfl, hb6⟩
          have HB6 : Hid (Below w.heap.size w w6) := Lib.hid (bt HB5.out hb6)
          clear hb6
          go_wp2
          go_loopw [11, 12] (fun s11 s12 wx => ∃ (n i : Nat), s11 = .int .i64 (n : Nat) ∧ s12 = .int .i64 (i : Nat) ∧ i ≤ s.length ∧ n ≤ i ∧ Hid (Left s i n) ∧ Hid (Below w.heap.size w wx)) (fun _ s12 _ => s.length - (intOf s12).toNat)
          case atStart => exact ⟨0, 0, rfl, rfl, by omega, by omega, HLF, HB6⟩
          case round =>
            obtain ⟨n, i, rfl, rfl, hi, hni, HL, HBW⟩ := hrel
            have HC := Lib.hid (HR2.out i hi)
            cases hn : nextF s i with
            | none =>
              rw [hn] at HC
              clear HL hn
              go_wp2_with fail
              refine (HC.out _).mono ?_
              rintro e w7 ⟨rfl, hb7⟩
              have HB7 : Hid (Below w.heap.size w w7) := Lib.hid (bt HBW.out hb7)
              clear hb7
              go_wp2
              go_ret
              exact ⟨rfl, by have h := HB7.out; repeat (with_reducible (first | assumption | exact ba h))⟩
            | some t =>
              have hk0 : t.k ≠ 0 := by
                intro e
                obtain ⟨L, h1, _⟩ := left_end HL.out hi hn e
                rw [HALL.out] at h1
                cases h1
              obtain ⟨hL2, hb1, hb2, _⟩ := left_next HL.out hi hn hk0
              rw [hn] at HC
              have HL2 := Lib.hid hL2
              obtain ⟨k, x, a, b⟩ := t
              simp only at hk0 hb1 hb2 HL2 hL2
              have q0 : ((k : Int) == 0) = false := by rw [beq_eq_false_iff_ne]; omega
              have HC2 : Hid (∀ W : World, Calls Tryz.prog 9 #[.string (ba' s), .int .i64 (i : Nat)] W fun e w' => e = .returned (.tuple #[.agg #[.int .i64 (k : Nat), .string (ba' x), .int .i64 (a : Nat), .int .i64 (b : Nat)], .bool true]) ∧ Below W.heap.size W w') := HC
              clear HL hn hL2 HC
              go_wp2_with fail
              refine (HC2.out _).mono ?_
              rintro e w7 ⟨rfl, hb7⟩
              have HB7 : Hid (Below w.heap.size w w7) := Lib.hid (bt HBW.out hb7)
              clear hb7
              go_upto_region 19 with fail
              go_cut [111] (fun s111 wx => s111 = .bool false ∧ Below (w7.alloc (.cells #[.int .i64 (k : Nat), .string (ba' x), .int .i64 (a : Nat), .int .i64 (b : Nat)] 25)).heap.size (w7.alloc (.cells #[.int .i64 (k : Nat), .string (ba' x), .int .i64 (a : Nat), .int .i64 (b : Nat)] 25)) wx)
              case first =>
                rename_i J K' hJ hK'
                refine V18_region 40 _ _ _ _ _ _ _ _ _ _ _ _ _ _ _ _ _ _ _ _ _ _ _ _ _ _ _ _ _ _ _ _ _ _ _ _ _ _ _ _ _ _ _ _ _ _ _ _ _ _ _ _ _ _ _ _ _ _ _ _ _ _ _ _ _ _ _ _ _ _ _ _ _ _ _ _ _ _ _ _ _ _ _ _ _ _ _ _ _ _ _ _ _ _ _ _ _ _ _ _ _ _ _ _ _ _ _ _ _ _ _ _ _ _ _ _ _ _ _ _ _ _ _ _ _ _ (Below.refl _ _) rfl rfl ?_
                intro w' _ hb
                refine hK' _ _ (Met.intro (hJ _ _ ?_))
                (repeat apply Exists.intro)
                refine ⟨?_, rfl⟩
                exact ⟨rfl, hb⟩
              case rest =>
                obtain ⟨rfl, hbc⟩ := hcut
                have HBC : Hid (Below w.heap.size w wc) := Lib.hid (bt (ba HB7.out) hbc)
                have m3 : wc.cell? ⟨w7.heap.size, 3, none⟩ = some (.int .i64 (b : Nat)) := (hbc.cell (p := ⟨w7.heap.size, 3, none⟩) (by simp)).trans (by simp)
                clear hbc
                go_wp2
                go_roundw
                case rel => exact ⟨n + 1, b, by go_num, rfl, by omega, by omega, HL2, HBC⟩
                case measure => simp [intOf]; omega
        | some L =>
          rw [hall] at hal
          have HALL := Lib.hid hall
          have HA := Lib.hid hal
          clear hal hr0 he0 hok0 hvx hall
          go_wp2_with fail
          refine HA.out.mono ?_
          rintro e w5 ⟨⟨A5, c5, base5, rfl, hbase5, hown5⟩, hb5⟩
          have HB5 : Hid (Below w.heap.size w w5) := Lib.hid (bt HBR.out hb5)
          obtain ⟨m, hm⟩ : ∃ m, L.length = m := ⟨_, rfl⟩
          have HM := Lib.hid hm
          rw [hm] at hown5 ⊢
          have HO := Lib.hid hown5
          clear hb5 hown5 hbase5 hm
          go_wp2_with fail
          refine (HF2.out _).mono ?_
          rintro e w6 ⟨rfl, hb6⟩
          have HB56 := Lib.hid hb6
          have HB6 : Hid (Below w.heap.size w w6) := Lib.hid (bt HB5.out hb6)
          clear hb6
          go_wp2
          go_loopw [11, 12] (fun s11 s12 wx => ∃ (n i : Nat), s11 = .int .i64 (n : Nat) ∧ s12 = .int .i64 (i : Nat) ∧ i ≤ s.length ∧ n ≤ i ∧ Hid (Left s i n) ∧ Hid (Below w.heap.size w wx) ∧ Hid (Below w5.heap.size w5 wx)) (fun _ s12 _ => s.length - (intOf s12).toNat)
          case atStart => exact ⟨0, 0, rfl, rfl, by omega, by omega, HLF, HB6, HB56⟩
          case round =>
            obtain ⟨n, i, rfl, rfl, hi, hni, HL, HBW, HB5W⟩ := hrel
            have HC := Lib.hid (HR2.out i hi)
            cases hn : nextF s i with
            | none =>
              exact absurd ((left_none HL.out hi hn).symm.trans HALL.out) (by simp)
            | some t =>
              rw [hn] at HC
              by_cases hk0 : t.k = 0
              · obtain ⟨L2, h1, h2⟩ := left_end HL.out hi hn hk0
                have hnm : n = m := by
                  have h3 := h1.symm.trans HALL.out
                  cases h3
                  rw [← h2, HM.out]
                subst hnm
                obtain ⟨k, x, a, b⟩ := t
                simp only at hk0
                subst hk0
                have HC2 : Hid (∀ W : World, Calls Tryz.prog 9 #[.string (ba' s), .int .i64 (i : Nat)] W fun e w' => e = .returned (.tuple #[.agg #[.int .i64 0, .string (ba' x), .int .i64 (a : Nat), .int .i64 (b : Nat)], .bool true]) ∧ Below W.heap.size W w') := HC
                clear HL hn HC h1 h2
                go_wp2_with fail
                refine (HC2.out _).mono ?_
                rintro e w7 ⟨rfl, hb7⟩
                have HB7 : Hid (Below w.heap.size w w7) := Lib.hid (bt HBW.out hb7)
                clear hb7
                go_wp2
                go_ret
                exact ⟨rfl, by have h := HB7.out; repeat (with_reducible (first | assumption | exact ba h))⟩
              · obtain ⟨hL2, hb1, hb2, hat⟩ := left_next HL.out hi hn hk0
                have hLn := hat L HALL.out
                have HL2 := Lib.hid hL2
                obtain ⟨ka, kb⟩ := cellsK_four L n t hLn
                obtain ⟨kc, kd⟩ := cellsK_at L n t hLn
                have hnm : n < m := by
                  rw [← HM.out]
                  exact (List.getElem?_eq_some_iff.1 hLn).1
                obtain ⟨k, x, a, b⟩ := t
                simp only at hk0 hb1 hb2 HL2 hL2 ka kb kc kd
                obtain ⟨g, rfl, hg0, hg1, hgx⟩ := row_cells4 HO.out (by omega)
                have q0 : ((k : Int) == 0) = false := by rw [beq_eq_false_iff_ne]; omega
                have p0 : decide ((m : Int) ≤ (n : Int)) = false := by simp; omega
                have p1 : decide (m ≤ n) = false := by simp; omega
                have HC2 : Hid (∀ W : World, Calls Tryz.prog 9 #[.string (ba' s), .int .i64 (i : Nat)] W fun e w' => e = .returned (.tuple #[.agg #[.int .i64 (k : Nat), .string (ba' x), .int .i64 (a : Nat), .int .i64 (b : Nat)], .bool true]) ∧ Below W.heap.size W w') := HC
                have HX : Hid (∀ W, Below w5.heap.size w5 W → W.cell? ⟨g, n * 4, none⟩ = some (.int .i64 (k : Nat)) ∧ W.cell? ⟨g, n * 4 + 1, none⟩ = some (.string (ba' x)) ∧ W.cell? ⟨g, n * 4 + 2, none⟩ = some (.int .i64 (a : Nat)) ∧ W.cell? ⟨g, n * 4 + 3, none⟩ = some (.int .i64 (b : Nat))) := Lib.hid fun W hW =>
                  ⟨(hW.cell (p := ⟨g, n * 4, none⟩) hg1).trans (hgx _ _ ka), (hW.cell (p := ⟨g, n * 4 + 1, none⟩) hg1).trans (hgx _ _ kb), (hW.cell (p := ⟨g, n * 4 + 2, none⟩) hg1).trans (hgx _ _ kc), (hW.cell (p := ⟨g, n * 4 + 3, none⟩) hg1).trans (hgx _ _ kd)⟩
                clear HL hn HC hL2 hat hLn ka kb kc kd hgx
                go_wp2_with fail
                refine (HC2.out _).mono ?_
                rintro e w7 ⟨rfl, hb7⟩
                have HB7 : Hid (Below w.heap.size w w7) := Lib.hid (bt HBW.out hb7)
                have HB57 : Hid (Below w5.heap.size w5 w7) := Lib.hid (bt HB5W.out hb7)
                clear hb7
                obtain ⟨c0, c1, c2, c3⟩ := HX.out _ (ba (o := .cells #[.int .i64 (k : Nat), .string (ba' x), .int .i64 (a : Nat), .int .i64 (b : Nat)] 25) HB57.out)
                go_upto_region 19 with fail
                go_cut [111] (fun s111 wx => s111 = .bool false ∧ Below (w7.alloc (.cells #[.int .i64 (k : Nat), .string (ba' x), .int .i64 (a : Nat), .int .i64 (b : Nat)] 25)).heap.size (w7.alloc (.cells #[.int .i64 (k : Nat), .string (ba' x), .int .i64 (a : Nat), .int .i64 (b : Nat)] 25)) wx)
                case first =>
                  rename_i J K' hJ hK'
                  refine V19_region g w7.heap.size n m k a b c5 x _ _ _ _ _ _ _ _ _ _ _ _ _ _ _ _ _ _ _ _ _ _ _ _ _ _ _ _ _ _ _ _ _ _ _ _ _ _ _ _ _ _ _ _ _ _ _ _ _ _ _ _ _ _ _ _ _ _ _ _ _ _ _ _ _ _ _ _ _ _ _ _ _ _ _ _ _ _ _ _ _ _ _ _ _ _ _ _ _ _ _ _ _ _ _ _ _ _ _ _ _ _ _ _ _ _ _ _ _ _ _ _ _ _ _ _ _ _ _ _ _ _ _ (Below.refl _ _) c0 c1 c2 c3 (by simp) (by simp) (by simp) (by simp) hnm p0 p1 ?_
                  intro w' _ hb
                  refine hK' _ _ (Met.intro (hJ _ _ ?_))
                  (repeat apply Exists.intro)
                  refine ⟨?_, rfl⟩
                  exact ⟨rfl, hb⟩
                case rest =>
                  obtain ⟨rfl, hbc⟩ := hcut
                  have HBC : Hid (Below w.heap.size w wc) := Lib.hid (bt (ba HB7.out) hbc)
                  have HBD : Hid (Below w5.heap.size w5 wc) := Lib.hid (bt (ba HB57.out) hbc)
                  have m3 : wc.cell? ⟨w7.heap.size, 3, none⟩ = some (.int .i64 (b : Nat)) := (hbc.cell (p := ⟨w7.heap.size, 3, none⟩) (by simp)).trans (by simp)
                  clear hbc c0 c1 c2 c3
                  go_wp2
                  go_roundw
                  case rel => exact ⟨n + 1, b, by go_num, rfl, by omega, by omega, HL2, HBC, HBD⟩
                  case measure => simp [intOf]; omega
    | some t =>
      rw [hn] at hnx HR3
      obtain ⟨k, x, a, b⟩ := t
      have HN : Hid (Calls Tryz.prog 7 #[.string (ba' s), .int .i64 (q : Int)] w1 fun e w' => e = .returned (.tuple #[.agg #[.int .i64 (k : Nat), .string (ba' x), .int .i64 (a : Nat), .int .i64 (b : Nat)], .int .i64 0]) ∧ Below w1.heap.size w1 w') := Lib.hid hnx
      have HR4 : Hid (∀ W : World, Calls Tryz.prog 9 #[.string (ba' s), .int .i64 (q : Nat)] W fun e w' => e = .returned (.tuple #[.agg #[.int .i64 (k : Nat), .string (ba' x), .int .i64 (a : Nat), .int .i64 (b : Nat)], .bool true]) ∧ Below W.heap.size W w') := HR3
      clear hnx hok HNX HR3 hn p1 p2 p3 p4
      go_wp2_with fail
      refine HN.out.mono ?_
      rintro e w2 ⟨rfl, hb2⟩
      have HB2 : Hid (Below w.heap.size w w2) := Lib.hid (bt HB1.out hb2)
      clear hb2
      go_wp2_with fail
      refine (HF3.out _).mono ?_
      rintro e w3 ⟨rfl, hb3⟩
      have HB3 : Hid (Below w.heap.size w w3) := Lib.hid (bt (ba HB2.out) hb3)
      have HZ3 : Hid (w2.heap.size < w3.heap.size) := Lib.hid (by have := hb3.size; simp at this; omega)
      have d0 : w3.cell? ⟨w2.heap.size, 0, none⟩ = some (.int .i64 (k : Nat)) := (hb3.cell (p := ⟨w2.heap.size, 0, none⟩) (by simp)).trans (by simp)
      have d1 : w3.cell? ⟨w2.heap.size, 1, none⟩ = some (.string (ba' x)) := (hb3.cell (p := ⟨w2.heap.size, 1, none⟩) (by simp)).trans (by simp)
      have d2 : w3.cell? ⟨w2.heap.size, 2, none⟩ = some (.int .i64 (a : Nat)) := (hb3.cell (p := ⟨w2.heap.size, 2, none⟩) (by simp)).trans (by simp)
      have d3 : w3.cell? ⟨w2.heap.size, 3, none⟩ = some (.int .i64 (b : Nat)) := (hb3.cell (p := ⟨w2.heap.size, 3, none⟩) (by simp)).trans (by simp)
      clear hb3
      go_wp2_with fail
      refine (HR4.out _).mono ?_
      rintro e w4 ⟨rfl, hb4⟩
      have HB4 : Hid (Below w.heap.size w w4) := Lib.hid (bt HB3.out hb4)
      have HZ4 : Hid (w2.heap.size < w4.heap.size) := Lib.hid (zz hb4 HZ3.out)
      have f0 : w4.cell? ⟨w2.heap.size, 0, none⟩ = some (.int .i64 (k : Nat)) := (hb4.cell (p := ⟨w2.heap.size, 0, none⟩) HZ3.out).trans d0
      have f1 : w4.cell? ⟨w2.heap.size, 1, none⟩ = some (.string (ba' x)) := (hb4.cell (p := ⟨w2.heap.size, 1, none⟩) HZ3.out).trans d1
      have f2 : w4.cell? ⟨w2.heap.size, 2, none⟩ = some (.int .i64 (a : Nat)) := (hb4.cell (p := ⟨w2.heap.size, 2, none⟩) HZ3.out).trans d2
      have f3 : w4.cell? ⟨w2.heap.size, 3, none⟩ = some (.int .i64 (b : Nat)) := (hb4.cell (p := ⟨w2.heap.size, 3, none⟩) HZ3.out).trans d3
      have hz4 : w2.heap.size < w4.heap.size := HZ4.out
      clear hb4 d0 d1 d2 d3
      have HBR := Lib.hid (ba (o := .cells #[.int .i64 (k : Nat), .string (ba' x), .int .i64 (a : Nat), .int .i64 (b : Nat)] 25) HB4.out)
      have hal := HAL.out _ HBR.out
      cases hok0 : okT s 0 with
      | false =>
        have hr0 : allR s = none := by unfold allR; rw [hok0]; rfl
        have he0 : allE s = 2 := by unfold allE; rw [hok0]; rfl
        rw [hr0, he0] at hal
        have HF2 : Hid (∀ W : World, Calls Tryz.prog 8 #[.string (ba' s), .int .i64 0] W fun e w' => e = .returned (.bool false) ∧ Below W.heap.size W w') := Lib.hid fun W => by
          have h := HF1.out 0 W
          rwa [hok0] at h
        have HA := Lib.hid hal
        clear hal
        go_wp2_with fail
        refine HA.out.mono ?_
        rintro e w5 ⟨he, hb5⟩
        obtain rfl : e = _ := he
        have HB5 : Hid (Below w.heap.size w w5) := Lib.hid (bt HBR.out hb5)
        clear hb5
        go_wp2_with fail
        refine (HF2.out _).mono ?_
        rintro e w6 ⟨rfl, hb6⟩
        have HB6 : Hid (Below w.heap.size w w6) := Lib.hid (bt HB5.out hb6)
        clear hb6
        go_wp2
        go_ret
        exact ⟨rfl, HB6.out⟩
      | true =>
        have hr0 : allR s = allF s := by unfold allR; rw [hok0]; rfl
        have he0 : allE s = if (allF s).isSome = true then 0 else 40 := by unfold allE; rw [hok0]; rfl
        have hvx : validX s = true := by
          unfold okT at hok0
          simp only [Bool.and_eq_true] at hok0
          exact hok0.2
        have HR2 := Lib.hid (HRF.out hvx)
        have HLF : Hid (Left s 0 0) := Lib.hid ⟨s.length + 2, [], by omega, rfl, rfl⟩
        rw [hr0, he0] at hal
        have HF2 : Hid (∀ W : World, Calls Tryz.prog 8 #[.string (ba' s), .int .i64 0] W fun e w' => e = .returned (.bool true) ∧ Below W.heap.size W w') := Lib.hid fun W => by
          have h := HF1.out 0 W
          rwa [hok0] at h
        cases hall : allF s with
        | none =>
          rw [hall] at hal
          have HALL := Lib.hid hall
          have HA := Lib.hid hal
          clear hal hr0 he0 hok0 hvx hall
          go_wp2_with fail
          refine HA.out.mono ?_
          rintro e w5 ⟨he, hb5⟩
          obtain rfl : e = _ := he
          have HB5 : Hid (Below w.heap.size w w5) := Lib.hid (bt HBR.out hb5)
          clear hb5
          go_wp2_with fail
          refine (HF2.out _).mono ?_
          rintro e w6 ⟨rfl, hb6⟩
          have HB6 : Hid (Below w.heap.size w w6) := Lib.hid (bt HB5.out hb6)
          clear hb6
          go_wp2
          go_loopw [11, 12] (fun s11 s12 wx => ∃ (n i : Nat), s11 = .int .i64 (n : Nat) ∧ s12 = .int .i64 (i : Nat) ∧ i ≤ s.length ∧ n ≤ i ∧ Hid (Left s i n) ∧ Hid (Below w.heap.size w wx)) (fun _ s12 _ => s.length - (intOf s12).toNat)
          case atStart => exact ⟨0, 0, rfl, rfl, by omega, by omega, HLF, HB6⟩
          case round =>
            obtain ⟨n, i, rfl, rfl, hi, hni, HL, HBW⟩ := hrel
            have HC := Lib.hid (HR2.out i hi)
            cases hn : nextF s i with
            | none =>
              rw [hn] at HC
              clear HL hn
              go_wp2_with fail
              refine (HC.out _).mono ?_
              rintro e w7 ⟨rfl, hb7⟩
              have HB7 : Hid (Below w.heap.size w w7) := Lib.hid (bt HBW.out hb7)
              clear hb7
              go_wp2
              go_ret
              exact ⟨rfl, by have h := HB7.out; repeat (with_reducible (first | assumption | exact ba h))⟩
            | some t =>
              have hk0 : t.k ≠ 0 := by
                intro e
                obtain ⟨L, h1, _⟩ := left_end HL.out hi hn e
                rw [HALL.out] at h1
                cases h1
              obtain ⟨hL2, hb1, hb2, _⟩ := left_next HL.out hi hn hk0
              rw [hn] at HC
              have HL2 := Lib.hid hL2
              obtain ⟨k, x, a, b⟩ := t
              simp only at hk0 hb1 hb2 HL2 hL2
              have q0 : ((k : Int) == 0) = false := by rw [beq_eq_false_iff_ne]; omega
              have HC2 : Hid (∀ W : World, Calls Tryz.prog 9 #[.string (ba' s), .int .i64 (i : Nat)] W fun e w' => e = .returned (.tuple #[.agg #[.int .i64 (k : Nat), .string (ba' x), .int .i64 (a : Nat), .int .i64 (b : Nat)], .bool true]) ∧ Below W.heap.size W w') := HC
              clear HL hn hL2 HC
              go_wp2_with fail
              refine (HC2.out _).mono ?_
              rintro e w7 ⟨rfl, hb7⟩
              have HB7 : Hid (Below w.heap.size w w7) := Lib.hid (bt HBW.out hb7)
              clear hb7
              go_upto_region 19 with fail
              go_cut [111] (fun s111 wx => s111 = .bool false ∧ Below (w7.alloc (.cells #[.int .i64 (k : Nat), .string (ba' x), .int .i64 (a : Nat), .int .i64 (b : Nat)] 25)).heap.size (w7.alloc (.cells #[.int .i64 (k : Nat), .string (ba' x), .int .i64 (a : Nat), .int .i64 (b : Nat)] 25)) wx)
              case first =>
                rename_i J K' hJ hK'
                refine V18_region 40 _ _ _ _ _ _ _ _ _ _ _ _ _ _ _ _ _ _ _ _ _ _ _ _ _ _ _ _ _ _ _ _ _ _ _ _ _ _ _ _ _ _ _ _ _ _ _ _ _ _ _ _ _ _ _ _ _ _ _ _ _ _ _ _ _ _ _ _ _ _ _ _ _ _ _ _ _ _ _ _ _ _ _ _ _ _ _ _ _ _ _ _ _ _ _ _ _ _ _ _ _ _ _ _ _ _ _ _ _ _ _ _ _ _ _ _ _ _ _ _ _ _ _ _ _ _ (Below.refl _ _) rfl rfl ?_
                intro w' _ hb
                refine hK' _ _ (Met.intro (hJ _ _ ?_))
                (repeat apply Exists.intro)
                refine ⟨?_, rfl⟩
                exact ⟨rfl, hb⟩
              case rest =>
                obtain ⟨rfl, hbc⟩ := hcut
                have HBC : Hid (Below w.heap.size w wc) := Lib.hid (bt (ba HB7.out) hbc)
                have m3 : wc.cell? ⟨w7.heap.size, 3, none⟩ = some (.int .i64 (b : Nat)) := (hbc.cell (p := ⟨w7.heap.size, 3, none⟩) (by simp)).trans (by simp)
                clear hbc
                go_wp2
                go_roundw
                case rel => exact ⟨n + 1, b, by go_num, rfl, by omega, by omega, HL2, HBC⟩
                case measure => simp [intOf]; omega
        | some L =>
          rw [hall] at hal
          have HALL := Lib.hid hall
          have HA := Lib.hid hal
          clear hal hr0 he0 hok0 hvx hall
          go_wp2_with fail
          refine HA.out.mono ?_
          rintro e w5 ⟨⟨A5, c5, base5, rfl, hbase5, hown5⟩, hb5⟩
          have HB5 : Hid (Below w.heap.size w w5) := Lib.hid (bt HBR.out hb5)
          obtain ⟨m, hm⟩ : ∃ m, L.length = m := ⟨_, rfl⟩
          have HM := Lib.hid hm
          rw [hm] at hown5 ⊢
          have HO := Lib.hid hown5
          clear hb5 hown5 hbase5 hm
          go_wp2_with fail
          refine (HF2.out _).mono ?_
          rintro e w6 ⟨rfl, hb6⟩
          have HB56 := Lib.hid hb6
          have HB6 : Hid (Below w.heap.size w w6) := Lib.hid (bt HB5.out hb6)
          clear hb6
          go_wp2
          go_loopw [11, 12] (fun s11 s12 wx => ∃ (n i : Nat), s11 = .int .i64 (n : Nat) ∧ s12 = .int .i64 (i : Nat) ∧ i ≤ s.length ∧ n ≤ i ∧ Hid (Left s i n) ∧ Hid (Below w.heap.size w wx) ∧ Hid (Below w5.heap.size w5 wx)) (fun _ s12 _ => s.length - (intOf s12).toNat)
          case atStart => exact ⟨0, 0, rfl, rfl, by omega, by omega, HLF, HB6, HB56⟩
          case round =>
            obtain ⟨n, i, rfl, rfl, hi, hni, HL, HBW, HB5W⟩ := hrel
            have HC := Lib.hid (HR2.out i hi)
            cases hn : nextF s i with
            | none =>
              exact absurd ((left_none HL.out hi hn).symm.trans HALL.out) (by simp)
            | some t =>
              rw [hn] at HC
              by_cases hk0 : t.k = 0
              · obtain ⟨L2, h1, h2⟩ := left_end HL.out hi hn hk0
                have hnm : n = m := by
                  have h3 := h1.symm.trans HALL.out
                  cases h3
                  rw [← h2, HM.out]
                subst hnm
                obtain ⟨k, x, a, b⟩ := t
                simp only at hk0
                subst hk0
                have HC2 : Hid (∀ W : World, Calls Tryz.prog 9 #[.string (ba' s), .int .i64 (i : Nat)] W fun e w' => e = .returned (.tuple #[.agg #[.int .i64 0, .string (ba' x), .int .i64 (a : Nat), .int .i64 (b : Nat)], .bool true]) ∧ Below W.heap.size W w') := HC
                clear HL hn HC h1 h2
                go_wp2_with fail
                refine (HC2.out _).mono ?_
                rintro e w7 ⟨rfl, hb7⟩
                have HB7 : Hid (Below w.heap.size w w7) := Lib.hid (bt HBW.out hb7)
                clear hb7
                go_wp2
                go_ret
                exact ⟨rfl, by have h := HB7.out; repeat (with_reducible (first | assumption | exact ba h))⟩
              · obtain ⟨hL2, hb1, hb2, hat⟩ := left_next HL.out hi hn hk0
                have hLn := hat L HALL.out
                have HL2 := Lib.hid hL2
                obtain ⟨ka, kb⟩ := cellsK_four L n t hLn
                obtain ⟨kc, kd⟩ := cellsK_at L n t hLn
                have hnm : n < m := by
                  rw [← HM.out]
                  exact (List.getElem?_eq_some_iff.1 hLn).1
                obtain ⟨k, x, a, b⟩ := t
                simp only at hk0 hb1 hb2 HL2 hL2 ka kb kc kd
                obtain ⟨g, rfl, hg0, hg1, hgx⟩ := row_cells4 HO.out (by omega)
                have q0 : ((k : Int) == 0) = false := by rw [beq_eq_false_iff_ne]; omega
                have p0 : decide ((m : Int) ≤ (n : Int)) = false := by simp; omega
                have p1 : decide (m ≤ n) = false := by simp; omega
                have HC2 : Hid (∀ W : World, Calls Tryz.prog 9 #[.string (ba' s), .int .i64 (i : Nat)] W fun e w' => e = .returned (.tuple #[.agg #[.int .i64 (k : Nat), .string (ba' x), .int .i64 (a : Nat), .int .i64 (b : Nat)], .bool true]) ∧ Below W.heap.size W w') := HC
                have HX : Hid (∀ W, Below w5.heap.size w5 W → W.cell? ⟨g, n * 4, none⟩ = some (.int .i64 (k : Nat)) ∧ W.cell? ⟨g, n * 4 + 1, none⟩ = some (.string (ba' x)) ∧ W.cell? ⟨g, n * 4 + 2, none⟩ = some (.int .i64 (a : Nat)) ∧ W.cell? ⟨g, n * 4 + 3, none⟩ = some (.int .i64 (b : Nat))) := Lib.hid fun W hW =>
                  ⟨(hW.cell (p := ⟨g, n * 4, none⟩) hg1).trans (hgx _ _ ka), (hW.cell (p := ⟨g, n * 4 + 1, none⟩) hg1).trans (hgx _ _ kb), (hW.cell (p := ⟨g, n * 4 + 2, none⟩) hg1).trans (hgx _ _ kc), (hW.cell (p := ⟨g, n * 4 + 3, none⟩) hg1).trans (hgx _ _ kd)⟩
                clear HL hn HC hL2 hat hLn ka kb kc kd hgx
                go_wp2_with fail
                refine (HC2.out _).mono ?_
                rintro e w7 ⟨rfl, hb7⟩
                have HB7 : Hid (Below w.heap.size w w7) := Lib.hid (bt HBW.out hb7)
                have HB57 : Hid (Below w5.heap.size w5 w7) := Lib.hid (bt HB5W.out hb7)
                clear hb7
                obtain ⟨c0, c1, c2, c3⟩ := HX.out _ (ba (o := .cells #[.int .i64 (k : Nat), .string (ba' x), .int .i64 (a : Nat), .int .i64 (b : Nat)] 25) HB57.out)
                go_upto_region 19 with fail
                go_cut [111] (fun s111 wx => s111 = .bool false ∧ Below (w7.alloc (.cells #[.int .i64 (k : Nat), .string (ba' x), .int .i64 (a : Nat), .int .i64 (b : Nat)] 25)).heap.size (w7.alloc (.cells #[.int .i64 (k : Nat), .string (ba' x), .int .i64 (a : Nat), .int .i64 (b : Nat)] 25)) wx)
                case first =>
                  rename_i J K' hJ hK'
                  refine V19_region g w7.heap.size n m k a b c5 x _ _ _ _ _ _ _ _ _ _ _ _ _ _ _ _ _ _ _ _ _ _ _ _ _ _ _ _ _ _ _ _ _ _ _ _ _ _ _ _ _ _ _ _ _ _ _ _ _ _ _ _ _ _ _ _ _ _ _ _ _ _ _ _ _ _ _ _ _ _ _ _ _ _ _ _ _ _ _ _ _ _ _ _ _ _ _ _ _ _ _ _ _ _ _ _ _ _ _ _ _ _ _ _ _ _ _ _ _ _ _ _ _ _ _ _ _ _ _ _ _ _ _ (Below.refl _ _) c0 c1 c2 c3 (by simp) (by simp) (by simp) (by simp) hnm p0 p1 ?_
                  intro w' _ hb
                  refine hK' _ _ (Met.intro (hJ _ _ ?_))
                  (repeat apply Exists.intro)
                  refine ⟨?_, rfl⟩
                  exact ⟨rfl, hb⟩
                case rest =>
                  obtain ⟨rfl, hbc⟩ := hcut
                  have HBC : Hid (Below w.heap.size w wc) := Lib.hid (bt (ba HB7.out) hbc)
                  have HBD : Hid (Below w5.heap.size w5 wc) := Lib.hid (bt (ba HB57.out) hbc)
                  have m3 : wc.cell? ⟨w7.heap.size, 3, none⟩ = some (.int .i64 (b : Nat)) := (hbc.cell (p := ⟨w7.heap.size, 3, none⟩) (by simp)).trans (by simp)
                  clear hbc c0 c1 c2 c3
                  go_wp2
                  go_roundw
                  case rel => exact ⟨n + 1, b, by go_num, rfl, by omega, by omega, HL2, HBC, HBD⟩
                  case measure => simp [intOf]; omega
end Go.Proofs.YtolkfhiominjbaaGreatDoor
