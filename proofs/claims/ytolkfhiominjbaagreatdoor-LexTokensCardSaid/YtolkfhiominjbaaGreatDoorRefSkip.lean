/- Where the reference finds the end of spaces and remarks. No condition beyond what the theorems state. -/
import Derived.Test.YtolkfhiominjbaaGreatDoorRefSmall
import Derived.Test.YtolkfhiominjbaaGreatDoorCuts
namespace Go.Proofs.YtolkfhiominjbaaGreatDoor
open Go.RowKit Go.Lib
set_option maxRecDepth 100000
set_option maxHeartbeats 8000000
/-- What is left behind spaces and remarks, where so many are open. -/
def skipGo : List UInt8 → Nat → Option (List UInt8)
  | [], d => if d = 0 then some [] else none
  | a :: r, d => match r with
    | [] => if 0 < d then none else if spc.contains a = true then some [] else some [a]
    | b :: t => if a = 40 ∧ b = 58 then skipGo t (d + 1) else if 0 < d ∧ a = 58 ∧ b = 41 then skipGo t (d - 1) else if 0 < d then skipGo (b :: t) d else if spc.contains a = true then skipGo (b :: t) 0 else some (a :: b :: t)
theorem skipGo_nil (d : Nat) : skipGo [] d = if d = 0 then some [] else none := rfl
theorem skipGo_one (a : UInt8) (d : Nat) : skipGo [a] d = if 0 < d then none else if spc.contains a = true then some [] else some [a] := rfl
theorem skipGo_two (a b : UInt8) (t : List UInt8) (d : Nat) : skipGo (a :: b :: t) d = if a = 40 ∧ b = 58 then skipGo t (d + 1) else if 0 < d ∧ a = 58 ∧ b = 41 then skipGo t (d - 1) else if 0 < d then skipGo (b :: t) d else if spc.contains a = true then skipGo (b :: t) 0 else some (a :: b :: t) := by
  conv => lhs; unfold skipGo
theorem pre_two (a b : UInt8) (t : List UInt8) (x y : UInt8) : Lib.hasPrefix (a :: b :: t) [x, y] = decide (a = x ∧ b = y) := by
  rw [pre_take, Bool.eq_iff_iff]
  simp
theorem pre_one (a : UInt8) (x y : UInt8) : Lib.hasPrefix [a] [x, y] = false := by
  rw [pre_take]
  rfl
theorem skip_step (a : UInt8) (r : List UInt8) (d : Nat) : skipGo (a :: r) d = if Lib.hasPrefix (a :: r) [40, 58] = true then skipGo ((a :: r).drop 2) (d + 1) else if 0 < d ∧ Lib.hasPrefix (a :: r) [58, 41] = true then skipGo ((a :: r).drop 2) (d - 1) else if 0 < d ∨ spc.contains a = true then skipGo r d else some (a :: r) := by
  rcases r with _ | ⟨b, t⟩
  · rw [skipGo_one, pre_one, pre_one, skipGo_nil]
    generalize spc.contains a = q
    rcases Nat.eq_zero_or_pos d with rfl | h
    · cases q <;> simp
    · have hd : d ≠ 0 := by omega
      simp [h, hd]
  · rw [skipGo_two, pre_two, pre_two]
    simp only [decide_eq_true_eq, List.drop_succ_cons, List.drop_zero]
    by_cases h0 : a = 40 ∧ b = 58
    · rw [if_pos h0, if_pos h0]
    · rw [if_neg h0, if_neg h0]
      by_cases h1 : 0 < d ∧ a = 58 ∧ b = 41
      · rw [if_pos h1, if_pos h1]
      · rw [if_neg h1, if_neg h1]
        by_cases h : 0 < d
        · rw [if_pos h, if_pos (.inl h)]
        · rw [if_neg h]
          obtain rfl : d = 0 := by omega
          by_cases h2 : spc.contains a = true
          · rw [if_pos h2, if_pos (.inr h2)]
          · rw [if_neg h2, if_neg (fun e => e.elim h h2)]
def skipV (n : Nat) : Option (List UInt8) → Int
  | some m => ((n - m.length : Nat) : Int)
  | none => -1
theorem pre_len {l : List UInt8} {x y : UInt8} (h : Lib.hasPrefix l [x, y] = true) : 2 ≤ l.length := by
  rw [pre_take] at h
  simp only [Bool.and_eq_true, decide_eq_true_eq, List.length_cons, List.length_nil] at h
  omega
theorem skip_any (s : List UInt8) (i0 : Nat) (hs : s.length ≤ 70000) (hi0 : i0 ≤ s.length) (w : World) : Calls Tryz.prog 15 #[.string (ba' s), .int .i64 (i0 : Nat)] w fun e w' => e = .returned (.int .i64 (skipV s.length (skipGo (s.drop i0) 0))) ∧ w' = w := by
  have s1 : (ba' s).size = s.length := size_ba s
  obtain ⟨R, hR⟩ : ∃ R, skipGo (s.drop i0) 0 = R := ⟨_, rfl⟩
  have HR := Lib.hid hR
  rw [hR]
  clear hR
  go_enter Tryz.func15, Tryz.ntmps15
  go_wp2
  go_loopw [1, 5] (fun s1 s5 wx => ∃ (i d : Nat), s1 = .int .i64 (i : Nat) ∧ s5 = .int .i64 (d : Nat) ∧ i ≤ s.length ∧ d ≤ i ∧ Hid (skipGo (s.drop i) d = R) ∧ wx = w) (fun s1 _ _ => s.length - (intOf s1).toNat)
  case atStart => exact ⟨i0, 0, rfl, rfl, hi0, Nat.zero_le _, HR, rfl⟩
  case round =>
    obtain ⟨i, d, rfl, rfl, hi, hd, HG, rfl⟩ := hrel
    by_cases hlt : i < s.length
    · have g1 : decide ((i : Int) < (s.length : Int)) = true := by simp; omega
      have g1' : decide (i < s.length) = true := by simpa using hlt
      obtain ⟨c, hc⟩ : ∃ c, s[i]'hlt = c := ⟨_, rfl⟩
      have hlt' : i < (ba' s).size := by omega
      have ec : (ba' s)[i]'hlt' = c := hc
      have HD : Hid (s.drop i = c :: s.drop (i + 1)) := Lib.hid (by rw [List.drop_eq_getElem_cons hlt, hc])
      have hst := skip_step c (s.drop (i + 1)) d
      rw [← HD.out, HG.out] at hst
      have ha1 := at_any s [40, 58] i hs hi (by decide) wr
      obtain ⟨b1, hb1⟩ : ∃ b, Lib.hasPrefix (s.drop i) [40, 58] = b := ⟨_, rfl⟩
      have ha2 := at_any s [58, 41] i hs hi (by decide) wr
      obtain ⟨b2, hb2⟩ : ∃ b, Lib.hasPrefix (s.drop i) [58, 41] = b := ⟨_, rfl⟩
      have HL1 : Hid (b1 = true → i + 2 ≤ s.length) := Lib.hid fun h => by have := pre_len (hb1.trans h); rw [List.length_drop] at this; omega
      have HL2 : Hid (b2 = true → i + 2 ≤ s.length) := Lib.hid fun h => by have := pre_len (hb2.trans h); rw [List.length_drop] at this; omega
      rw [hb1] at ha1 hst
      rw [hb2] at ha2 hst
      rw [List.drop_drop] at hst
      have HA1 : Hid (Calls Tryz.prog 17 #[.string (ba' s), .int .i64 (i : Nat), .string ⟨#[40, 58]⟩] wr fun e w' => e = .returned (.bool b1) ∧ w' = wr) := Lib.hid ha1
      have HA2 : Hid (Calls Tryz.prog 17 #[.string (ba' s), .int .i64 (i : Nat), .string ⟨#[58, 41]⟩] wr fun e w' => e = .returned (.bool b2) ∧ w' = wr) := Lib.hid ha2
      have HST := Lib.hid hst
      clear hst ha1 ha2 hb1 hb2 hc HG HR
      go_wp2_with fail
      refine HA1.out.mono ?_
      rintro e w1 ⟨rfl, rfl⟩
      cases b1 with
      | true =>
        have hl := HL1.out rfl
        have HN : Hid (skipGo (s.drop (i + 2)) (d + 1) = R) := Lib.hid (by rw [HST.out, if_pos rfl])
        clear HA1 HA2 HST HL1 HL2
        go_wp2
        go_roundw
        case rel => exact ⟨i + 2, d + 1, by go_num, by go_num, by omega, by omega, HN, trivial⟩
        case measure => simp [intOf]; omega
      | false =>
        by_cases h0 : 0 < d
        · obtain ⟨d, rfl⟩ : ∃ d', d = d' + 1 := ⟨d - 1, by omega⟩
          have q1 : decide ((0 : Int) < ((d + 1 : Nat) : Int)) = true := by simp only [decide_eq_true_eq]; omega
          have q2 : decide ((0 : Int) < (d : Int) + 1) = true := by simp only [decide_eq_true_eq]; omega
          have q3 : ((d : Int) + 1 - 1) = (d : Int) := by omega
          go_wp2_with fail
          refine HA2.out.mono ?_
          rintro e w2 ⟨rfl, rfl⟩
          cases b2 with
          | true =>
            have hl := HL2.out rfl
            have HN : Hid (skipGo (s.drop (i + 2)) d = R) := Lib.hid (by rw [HST.out, if_neg (by decide), if_pos ⟨h0, rfl⟩]; rfl)
            clear HA1 HA2 HST HL1 HL2
            go_wp2
            go_roundw
            case rel => exact ⟨i + 2, d, by go_num, by go_num, by omega, by omega, HN, trivial⟩
            case measure => simp [intOf]; omega
          | false =>
            have HN : Hid (skipGo (s.drop (i + 1)) (d + 1) = R) := Lib.hid (by rw [HST.out, if_neg (by decide), if_neg (by simp), if_pos (.inl h0)])
            clear HA1 HA2 HST HL1 HL2
            go_wp2
            go_roundw
            case rel => exact ⟨i + 1, d + 1, by go_num, by go_num, by omega, by omega, HN, trivial⟩
            case measure => simp [intOf]; omega
        · obtain rfl : d = 0 := by omega
          have HS : Hid (∀ W, Calls Tryz.prog 27 #[.int .u8 (c.toNat : Int)] W fun e w' => e = .returned (.bool (spc.contains c)) ∧ w' = W) := Lib.hid (fun W => spaceR_any c W)
          obtain ⟨b3, hb3⟩ : ∃ b, spc.contains c = b := ⟨_, rfl⟩
          rw [hb3] at HS HST
          clear hb3
          go_wp2_with fail
          refine (HS.out _).mono ?_
          rintro e w2 ⟨rfl, rfl⟩
          cases b3 with
          | true =>
            have HN : Hid (skipGo (s.drop (i + 1)) 0 = R) := Lib.hid (by rw [HST.out, if_neg (by decide), if_neg (by simp), if_pos (.inr rfl)])
            clear HA1 HA2 HST HL1 HL2 HS
            go_wp2
            go_roundw
            case rel => exact ⟨i + 1, 0, by go_num, by go_num, by omega, by omega, HN, trivial⟩
            case measure => simp [intOf]; omega
          | false =>
            have HN : Hid (R = some (s.drop i)) := Lib.hid (by rw [HST.out, if_neg (by decide), if_neg (by simp), if_neg (by simp)])
            clear HA1 HA2 HST HL1 HL2 HS
            go_wp2
            go_ret
            refine ⟨?_, rfl⟩
            rw [HN.out]
            have hv : skipV s.length (some (s.drop i)) = (i : Int) := by
              show ((s.length - (s.drop i).length : Nat) : Int) = _
              rw [List.length_drop]
              omega
            rw [hv]
            rfl
    · obtain rfl : i = s.length := by omega
      have hG := HG.out
      rw [List.drop_length, skipGo_nil] at hG
      by_cases h0 : d = 0
      · subst h0
        have HN : Hid (R = some []) := Lib.hid (by rw [← hG]; rfl)
        clear hG HG HR
        go_wp2
        go_ret
        exact ⟨by rw [HN.out]; rfl, rfl⟩
      · rw [if_neg h0] at hG
        have q1 : decide ((0 : Int) < (d : Int)) = true := by simp only [decide_eq_true_eq]; omega
        have q1' : decide (0 < d) = true := by simp only [decide_eq_true_eq]; omega
        have HN : Hid (R = none) := Lib.hid hG.symm
        clear hG HG HR
        go_wp2
        go_ret
        exact ⟨by rw [HN.out]; rfl, rfl⟩
end Go.Proofs.YtolkfhiominjbaaGreatDoor
namespace Go.Proofs.YtolkfhiominjbaaGreatDoor
open Go.RowKit Go.Lib
set_option maxRecDepth 100000
set_option maxHeartbeats 4000000
theorem skip_in : ∀ (n : Nat) (l : List UInt8) (op k : Nat), l.length ≤ n → 0 < op → (remGo l op k = 0 → skipGo l op = none) ∧ (remGo l op k ≠ 0 → k ≤ remGo l op k ∧ skipGo l op = skipGo (l.drop (remGo l op k - k)) 0)
  | _, [], op, k, _, h0 => ⟨fun _ => by rw [skipGo_nil, if_neg (by omega)], fun h => absurd rfl h⟩
  | _, [a], op, k, _, h0 => ⟨fun _ => by rw [skipGo_one, if_pos h0], fun h => absurd rfl h⟩
  | 0, a :: b :: t, _, _, h, _ => by simp at h
  | n + 1, a :: b :: t, op, k, h, h0 => by
    simp only [List.length_cons] at h
    rw [remGo_cons, skipGo_two]
    by_cases h1 : a = 40 ∧ b = 58
    · rw [if_pos h1, if_pos h1]
      obtain ⟨i1, i2⟩ := skip_in n t (op + 1) (k + 2) (by omega) (by omega)
      refine ⟨i1, fun h2 => ?_⟩
      obtain ⟨i3, i4⟩ := i2 h2
      refine ⟨by omega, ?_⟩
      rw [i4]
      obtain ⟨q, hq⟩ : ∃ q, remGo t (op + 1) (k + 2) = k + 2 + q := ⟨remGo t (op + 1) (k + 2) - (k + 2), by omega⟩
      rw [hq, show k + 2 + q - (k + 2) = q by omega, show k + 2 + q - k = q + 2 by omega]
      rfl
    · rw [if_neg h1, if_neg h1]
      by_cases h2 : a = 58 ∧ b = 41
      · rw [if_pos h2, if_pos (show 0 < op ∧ a = 58 ∧ b = 41 from ⟨h0, h2⟩)]
        by_cases h3 : op = 1
        · rw [if_pos h3]
          refine ⟨fun e => by omega, fun _ => ⟨by omega, ?_⟩⟩
          rw [show k + 2 - k = 2 by omega, h3]
          rfl
        · rw [if_neg h3]
          obtain ⟨i1, i2⟩ := skip_in n t (op - 1) (k + 2) (by omega) (by omega)
          refine ⟨i1, fun h4 => ?_⟩
          obtain ⟨i3, i4⟩ := i2 h4
          refine ⟨by omega, ?_⟩
          rw [i4]
          obtain ⟨q, hq⟩ : ∃ q, remGo t (op - 1) (k + 2) = k + 2 + q := ⟨remGo t (op - 1) (k + 2) - (k + 2), by omega⟩
          rw [hq, show k + 2 + q - (k + 2) = q by omega, show k + 2 + q - k = q + 2 by omega]
          rfl
      · rw [if_neg h2, if_neg (show ¬ (0 < op ∧ a = 58 ∧ b = 41) from fun e => h2 e.2), if_pos h0]
        obtain ⟨i1, i2⟩ := skip_in n (b :: t) op (k + 1) (by simp only [List.length_cons]; omega) h0
        refine ⟨i1, fun h4 => ?_⟩
        obtain ⟨i3, i4⟩ := i2 h4
        refine ⟨by omega, ?_⟩
        rw [i4]
        obtain ⟨q, hq⟩ : ∃ q, remGo (b :: t) op (k + 1) = k + 1 + q := ⟨remGo (b :: t) op (k + 1) - (k + 1), by omega⟩
        rw [hq, show k + 1 + q - (k + 1) = q by omega, show k + 1 + q - k = q + 1 by omega]
        rfl
theorem skip_trim : ∀ l : List UInt8, skipGo l 0 = skipGo (trimW l) 0
  | [] => rfl
  | c :: t => by
    rw [trimW_cons]
    by_cases h : spc.contains c = true
    · rw [if_pos h, skip_step, if_neg, if_neg (by simp), if_pos (.inr h), skip_trim t]
      intro e
      have hc : c ≠ 40 := by
        intro hc
        rw [hc] at h
        exact absurd h (by decide)
      rcases t with _ | ⟨b, t⟩
      · rw [pre_one] at e
        cases e
      · rw [pre_two] at e
        simp only [decide_eq_true_eq] at e
        exact hc e.1
    · rw [if_neg h]
theorem skip_pass : ∀ (f : Nat) (m : List UInt8), trimW m = m → m.length < f → passGo f m = skipGo m 0
  | 0, m, _, h => by omega
  | f + 1, m, ht, hf => by
    unfold passGo
    cases hp : Lib.hasPrefix m [40, 58] with
    | true =>
      rw [if_pos rfl]
      obtain ⟨t, rfl⟩ : ∃ t, m = 40 :: 58 :: t := by
        rcases m with _ | ⟨a, _ | ⟨b, t⟩⟩
        · cases hp
        · rw [pre_one] at hp
          cases hp
        · rw [pre_two] at hp
          simp only [decide_eq_true_eq] at hp
          exact ⟨t, by rw [hp.1, hp.2]⟩
      rw [skipGo_two, remGo_cons]
      simp only [and_self, if_true]
      obtain ⟨i1, i2⟩ := skip_in t.length t (0 + 1) (0 + 2) (Nat.le_refl _) (by omega)
      by_cases h0 : remGo t (0 + 1) (0 + 2) = 0
      · rw [if_pos h0, i1 h0]
      · rw [if_neg h0]
        obtain ⟨i3, i4⟩ := i2 h0
        rw [i4]
        obtain ⟨q, hq⟩ : ∃ q, remGo t (0 + 1) (0 + 2) = q + 2 := ⟨remGo t (0 + 1) (0 + 2) - 2, by omega⟩
        rw [hq, show q + 2 - (0 + 2) = q by omega, skip_trim]
        have e : (40 :: 58 :: t : List UInt8).drop (q + 2) = t.drop q := rfl
        rw [e]
        refine skip_pass f _ (trimW_idem _) ?_
        have := trimW_le (t.drop q)
        rw [List.length_drop] at this
        simp only [List.length_cons] at hf
        omega
    | false =>
      rw [if_neg (by decide)]
      by_cases hne : m = []
      · rw [hne]
        rfl
      · obtain ⟨c, t, rfl, hc⟩ := first_no hne ht
        rw [skip_step, hp, if_neg (by decide), if_neg (by simp), if_neg (by rw [hc]; simp)]
/-- The reference's end of spaces and remarks is the lexer's. -/
theorem skip_is (l : List UInt8) : skipGo l 0 = passF l := by
  unfold passF
  rw [skip_pass _ _ (trimW_idem l) (by have := trimW_le l; omega), ← skip_trim]
end Go.Proofs.YtolkfhiominjbaaGreatDoor
