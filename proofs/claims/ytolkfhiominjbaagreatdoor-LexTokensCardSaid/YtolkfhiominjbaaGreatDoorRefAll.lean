/- The reference Next is the lexer Next. No condition beyond what the theorems state. -/
import Derived.Test.YtolkfhiominjbaaGreatDoorRefNum
import Derived.Test.YtolkfhiominjbaaGreatDoorRefSign
namespace Go.Proofs.YtolkfhiominjbaaGreatDoor
open Go.RowKit Go.Lib
set_option maxRecDepth 100000
set_option maxHeartbeats 4000000
/-- What comes of a token that a text from some place on begins with. -/
def atV (j : Nat) (R : Nat × List UInt8 × Nat) : Value := tokV (if R.2.2 = 0 then none else some ⟨R.1, R.2.1, j, j + R.2.2⟩)
theorem atV_no (j k : Nat) (x : List UInt8) : atV j (k, x, 0) = Zero4 := rfl
theorem atV_yes (j k n : Nat) (x : List UInt8) (hn : n ≠ 0) : atV j (k, x, n) = Say4 (k : Int) (ba' x) (j : Int) ((j + n : Nat) : Int) := by
  unfold atV
  rw [if_neg hn]
  rfl
theorem take_word (s : List UInt8) (j n : Nat) (l x : List UInt8) (hl : s.drop j = l) (hx : l.take n = x) : (ba' s).extract j (j + n) = ba' x := by
  rw [cut_mid, Nat.add_sub_cancel_left, hl, hx]
theorem name_case (s : List UInt8) (i j : Nat) (l : List UInt8) (hs : s.length ≤ 65536) (hv : validX s = true) (hj : j < s.length) (hl : s.drop j = l) (hlet : letterF l = true) (w : World)
    (HSK : Hid (∀ W, Calls Tryz.prog 15 #[.string (ba' s), .int .i64 (i : Nat)] W fun e w' => e = .returned (.int .i64 (j : Nat)) ∧ w' = W)) :
    Calls Tryz.prog 9 #[.string (ba' s), .int .i64 (i : Nat)] w fun e w' => e = .returned (atV j (1, qualF l, (qualF l).length)) ∧ Below w.heap.size w w' := by
  have hll : l.length = s.length - j := by rw [← hl, List.length_drop]
  have hne := letter_plain l hlet
  have hn0 : 0 < (plainF l).length := List.length_pos_iff.2 hne
  have hnl := plainF_len l
  have hgood : GoodT (s.drop j) := good_drop _ s j (Nat.le_refl _) hv
  have hvl : validX l = true := by
    rw [hl] at hgood
    rcases hgood with h | ⟨c, t, rfl, h1, h2⟩
    · exact h
    · rw [cont_letter h1 h2] at hlet
      cases hlet
  have HNM : Hid (Place 16 s (j : Nat) ((j + (plainF l).length : Nat) : Int)) := Lib.hid fun W => by
    have h := nameR_at s j (by omega) (by omega) hgood W
    rwa [hl] at h
  have hdrop : s.drop (j + (plainF l).length) = l.drop (plainF l).length := by rw [← hl, List.drop_drop]
  have hq : qualF l = match l.drop (plainF l).length with
      | [] => plainF l
      | c :: t => if c = 58 ∧ letterF t = true then plainF l ++ 58 :: plainF t else plainF l := by
    conv => lhs; unfold qualF
    rw [if_neg hne]
    rfl
  have hat := fun W => at_any s [58] (j + (plainF l).length) (by omega) (by omega) (by decide) W
  rw [hdrop] at hat
  have hw := take_word s j (plainF l).length l (plainF l) hl (plainF_take l).symm
  have hlone : Hid (Tells 17 #[.string (ba' s), .int .i64 ((j + (plainF l).length : Nat) : Int), .string ⟨#[58]⟩] false) → qualF l = plainF l → Calls Tryz.prog 9 #[.string (ba' s), .int .i64 (i : Nat)] w fun e w' => e = .returned (atV j (1, qualF l, (qualF l).length)) ∧ Below w.heap.size w w' := by
    intro HAT hqq
    rw [hqq, atV_yes _ _ _ _ (by omega)]
    exact nx_name0 s i j hs hj w HSK _ _ (by omega) (by omega) HNM HAT hw
  rcases hX : l.drop (plainF l).length with _ | ⟨c, t⟩
  · rw [hX] at hat hq
    exact hlone (Lib.hid hat) hq
  · rw [hX] at hat hq
    simp only at hq
    have hpre : Lib.hasPrefix (c :: t) [58] = decide (c = 58) := preOne c t 58
    rw [hpre] at hat
    by_cases hc : c = 58
    · subst hc
      have hvt : validX t = true := by
        have h := (vx_plainF l hvl).2
        rw [hX] at h
        exact (vx_behind 58 t (by decide) h).2
      have hlx : l = plainF l ++ 58 :: t := by
        conv => lhs; rw [← List.take_append_drop (plainF l).length l, hX, ← plainF_take l]
      have hlen : l.length = (plainF l).length + 1 + t.length := by
        conv => lhs; rw [hlx]
        rw [List.length_append, List.length_cons]
        omega
      have hdt : s.drop (j + (plainF l).length + 1) = t := by
        rw [← List.drop_drop, hdrop, hX]
        rfl
      have hnt := plainF_len t
      have HN2 : Hid (Place 16 s (((j + (plainF l).length : Nat) : Int) + 1) ((j + (plainF l).length + 1 + (plainF t).length : Nat) : Int)) := Lib.hid fun W => by
        have h := nameR_at s (j + (plainF l).length + 1) (by omega) (by omega) (by rw [hdt]; exact .inl hvt) W
        rwa [hdt] at h
      by_cases hlt : letterF t = true
      · have hnt0 : 0 < (plainF t).length := List.length_pos_iff.2 (letter_plain t hlt)
        have hqq : qualF l = plainF l ++ 58 :: plainF t := by rw [hq, if_pos ⟨rfl, hlt⟩]
        have hql : (qualF l).length = (plainF l).length + 1 + (plainF t).length := by rw [hqq, List.length_append, List.length_cons]; omega
        have hw2 := take_word s j ((plainF l).length + 1 + (plainF t).length) l (qualF l) hl (by
          have e : ∀ n, l.take n = (plainF l ++ 58 :: t).take n := fun n => by rw [← hlx]
          rw [hqq, e, show (plainF l).length + 1 + (plainF t).length = (plainF l).length + ((plainF t).length + 1) by omega, List.take_append, List.take_of_length_le (by omega)]
          rw [Nat.add_sub_cancel_left, List.take_succ_cons, ← plainF_take t])
        rw [atV_yes _ _ _ _ (by omega), hql]
        rw [← Nat.add_assoc, ← Nat.add_assoc] at hw2 ⊢
        exact nx_name2 s i j hs hj w HSK _ _ (by omega) (by omega) HNM (Lib.hid hat) _ (by omega) (by omega) HN2 hw2
      · have hp0 : plainF t = [] := by
          have h := plain_letter t
          rw [Bool.not_eq_true] at hlt
          rw [hlt] at h
          have := of_decide_eq_false h.symm
          simpa using this
        have hqq : qualF l = plainF l := by rw [hq, if_neg (fun e => hlt e.2)]
        rw [hqq, atV_yes _ _ _ _ (by omega)]
        exact nx_name1 s i j hs hj w HSK _ _ (by omega) (by omega) HNM (Lib.hid hat) _ (by rw [hp0]; rfl) (by rw [hp0]; simp only [List.length_nil]; omega) HN2 hw
    · rw [decide_eq_false hc] at hat
      exact hlone (Lib.hid hat) (by rw [hq, if_neg (fun e => hc e.1)])
theorem var_case (s : List UInt8) (i j : Nat) (t : List UInt8) (hs : s.length ≤ 65536) (hv : validX s = true) (hj : j < s.length) (hl : s.drop j = 36 :: t) (hno : plainF (36 :: t) = []) (w : World)
    (HSK : Hid (∀ W, Calls Tryz.prog 15 #[.string (ba' s), .int .i64 (i : Nat)] W fun e w' => e = .returned (.int .i64 (j : Nat)) ∧ w' = W)) (hc : s[j]'hj = 36) :
    Calls Tryz.prog 9 #[.string (ba' s), .int .i64 (i : Nat)] w fun e w' => e = .returned (atV j (varF t)) ∧ Below w.heap.size w w' := by
  have hll : t.length + 1 = s.length - j := by rw [← List.length_drop, hl]; rfl
  have hgood : GoodT (s.drop j) := good_drop _ s j (Nat.le_refl _) hv
  have HNM : Hid (Place 16 s (j : Nat) (j : Nat)) := Lib.hid fun W => by
    have h := nameR_at s j (by omega) (by omega) hgood W
    rwa [hl, hno] at h
  have hdt : s.drop (j + 1) = t := by rw [← List.drop_drop, hl]; rfl
  have hvt : validX t = true := good_behind (c := 36) (by decide) (by rw [← hl]; exact hgood)
  have hnt := plainF_len t
  have HN2 : Hid (Place 16 s ((j : Int) + 1) ((j + 1 + (plainF t).length : Nat) : Int)) := Lib.hid fun W => by
    have h := nameR_at s (j + 1) (by omega) (by omega) (by rw [hdt]; exact .inl hvt) W
    rwa [hdt] at h
  have hw := take_word s (j + 1) (plainF t).length t (plainF t) hdt (plainF_take t).symm
  unfold varF
  by_cases h0 : plainF t = []
  · rw [if_pos h0, atV_no]
    exact nx_var0 s i j hs hj w HSK 36 hc rfl HNM _ (by rw [h0]; rfl) (by omega) HN2 _ hw
  · have hn0 : 0 < (plainF t).length := List.length_pos_iff.2 h0
    rw [if_neg h0, atV_yes _ _ _ _ (by omega), show j + ((plainF t).length + 1) = j + 1 + (plainF t).length by omega]
    exact nx_var1 s i j hs hj w HSK 36 hc rfl HNM _ (by omega) (by omega) HN2 _ hw
theorem quo_case (s : List UInt8) (i j : Nat) (c : UInt8) (t : List UInt8) (hs : s.length ≤ 65536) (hv : validX s = true) (hj : j < s.length) (hl : s.drop j = c :: t) (hq : c = 34 ∨ c = 39) (hno : plainF (c :: t) = []) (w : World)
    (HSK : Hid (∀ W, Calls Tryz.prog 15 #[.string (ba' s), .int .i64 (i : Nat)] W fun e w' => e = .returned (.int .i64 (j : Nat)) ∧ w' = W)) (hc : s[j]'hj = c) :
    Calls Tryz.prog 9 #[.string (ba' s), .int .i64 (i : Nat)] w fun e w' => e = .returned (atV j (quoF c t)) ∧ Below w.heap.size w w' := by
  have hll : t.length + 1 = s.length - j := by rw [← List.length_drop, hl]; rfl
  have hgood : GoodT (s.drop j) := good_drop _ s j (Nat.le_refl _) hv
  have HNM : Hid (Place 16 s (j : Nat) (j : Nat)) := Lib.hid fun W => by
    have h := nameR_at s j (by omega) (by omega) hgood W
    rwa [hl, hno] at h
  have hdt : s.drop (j + 1) = t := by rw [← List.drop_drop, hl]; rfl
  have hw := take_word s j 1 (c :: t) [c] hl rfl
  have hpc := fun W => pieceR_any s (j + 1) c hq (by omega) (by omega) W
  rw [hdt, readF_fuel c (s.length + 1) (t.length + 1) t [] (by omega) (by omega)] at hpc
  have h36 : ((c.toNat : Int) == 36) = false := by rcases hq with rfl | rfl <;> rfl
  obtain ⟨q, h34⟩ : ∃ q, ((c.toNat : Int) == 34) = q := ⟨_, rfl⟩
  have h39 : q = false → ((c.toNat : Int) == 39) = true := by
    rcases hq with rfl | rfl
    · intro e
      rw [e] at h34
      cases h34
    · intro _
      rfl
  unfold quoF
  cases hr : readF c (t.length + 1) t [] with
  | none =>
    rw [hr] at hpc
    exact nx_quo0 s i j hs hj w HSK c hc h36 q h34 h39 HNM hw (Lib.hid hpc)
  | some p =>
    obtain ⟨m, left⟩ := p
    have hle := readF_left c _ t [] m left hr
    rw [hr] at hpc
    by_cases h0 : left = []
    · subst h0
      exact nx_quo1 s i j hs hj w HSK c hc h36 q h34 h39 HNM hw m s.length rfl (Lib.hid hpc)
    · have hpos : 0 < left.length := List.length_pos_iff.2 h0
      simp only [if_neg h0]
      rw [atV_yes _ _ _ _ (by omega), show j + (t.length - left.length + 2) = (s.length - left.length) + 1 by omega]
      exact nx_quo2 s i j hs hj w HSK c hc h36 q h34 h39 HNM hw m (s.length - left.length) (by omega) (Lib.hid hpc)
theorem num_case (s : List UInt8) (i j : Nat) (c : UInt8) (t : List UInt8) (hs : s.length ≤ 65536) (hv : validX s = true) (hj : j < s.length) (hl : s.drop j = c :: t) (h36 : ((c.toNat : Int) == 36) = false) (h34 : ((c.toNat : Int) == 34) = false) (h39 : ((c.toNat : Int) == 39) = false) (hno : plainF (c :: t) = [])
    (hnum : 0 < digF (c :: t) ∨ (c = 46 ∧ 0 < digF t)) (w : World)
    (HSK : Hid (∀ W, Calls Tryz.prog 15 #[.string (ba' s), .int .i64 (i : Nat)] W fun e w' => e = .returned (.int .i64 (j : Nat)) ∧ w' = W)) (hc : s[j]'hj = c) :
    Calls Tryz.prog 9 #[.string (ba' s), .int .i64 (i : Nat)] w fun e w' => e = .returned (atV j (numT (c :: t))) ∧ Below w.heap.size w w' := by
  have hll : (c :: t).length = s.length - j := by rw [← List.length_drop, hl]
  have hgood : GoodT (s.drop j) := good_drop _ s j (Nat.le_refl _) hv
  have HNM : Hid (Place 16 s (j : Nat) (j : Nat)) := Lib.hid fun W => by
    have h := nameR_at s j (by omega) (by omega) hgood W
    rwa [hl, hno] at h
  have hdt : s.drop (j + 1) = t := by rw [← List.drop_drop, hl]; rfl
  have hdle := digF_le (c :: t)
  have HD0 : Hid (Tells 19 #[.string (ba' s), .int .i64 (j : Nat)] (decide (0 < digF (c :: t)))) := Lib.hid fun W => by
    have h := dig_call s j (by omega) (by omega) 0 (Nat.zero_le _) W
    rwa [hl] at h
  have h46 : decide (0 < digF (c :: t)) = false → ((c.toNat : Int) == 46) = true := by
    intro e
    have := of_decide_eq_false e
    rcases hnum with h | h
    · omega
    · rw [h.1]; rfl
  have HD1 : decide (0 < digF (c :: t)) = false → Hid (Tells 19 #[.string (ba' s), .int .i64 ((j : Int) + 1)] true) := by
    intro e
    have := of_decide_eq_false e
    refine Lib.hid fun W => ?_
    have h := dig_call s (j + 1) (by omega) (by omega) 0 (Nat.zero_le _) W
    rw [hdt] at h
    rcases hnum with h2 | h2
    · omega
    · rw [decide_eq_true h2.2] at h
      exact h
  have HDG : Hid (∀ p : Nat, j ≤ p → p ≤ j + digF (c :: t) → Tells 19 #[.string (ba' s), .int .i64 (p : Nat)] (decide (p < j + digF (c :: t)))) := Lib.hid fun p h1 h2 W => by
    obtain ⟨d, rfl⟩ : ∃ d, p = j + d := ⟨p - j, by omega⟩
    have h := dig_call s j (by omega) (by omega) d (by rw [hl]; omega) W
    rw [hl] at h
    have e : decide (j + d < j + digF (c :: t)) = decide (d < digF (c :: t)) := decide_eq_decide.2 (by omega)
    rw [e]
    exact h
  have hdrop : s.drop (j + digF (c :: t)) = (c :: t).drop (digF (c :: t)) := by rw [← hl, List.drop_drop]
  have hat := fun W => at_any s [46] (j + digF (c :: t)) (by omega) (by omega) (by decide) W
  rw [hdrop] at hat
  have hE : ∀ e, e ≤ (c :: t).length → Hid (Place 16 s ((j + e : Nat) : Int) ((j + e + (plainF ((c :: t).drop e)).length : Nat) : Int)) := fun e he => Lib.hid fun W => by
    have h := nameR_at s (j + e) (by omega) (by omega) (good_drop _ s _ (Nat.le_refl _) hv) W
    rwa [← List.drop_drop, hl] at h
  have hwx : ∀ e, e ≤ (c :: t).length → (ba' s).extract j (j + e) = ba' ((c :: t).take e) := fun e _ => take_word s j e (c :: t) _ hl rfl
  have hyes : ∀ z, letterF z = true → 0 < (plainF z).length := fun z h => List.length_pos_iff.2 (letter_plain z h)
  have hnop : ∀ z, ¬ letterF z = true → (plainF z).length = 0 := fun z h => by
    unfold plainF
    rw [if_neg h]
    rfl
  have hk : numK (c :: t) = numH (digF (c :: t)) ((c :: t).drop (digF (c :: t))) := rfl
  by_cases hdot : ∃ t2, (c :: t).drop (digF (c :: t)) = 46 :: t2
  · obtain ⟨t2, ht2⟩ := hdot
    have hk2 : numK (c :: t) = (4, digF (c :: t) + 1 + digF t2) := by rw [hk, ht2]; rfl
    have hl2 : digF (c :: t) + 1 + t2.length = (c :: t).length := by
      have h := congrArg List.length ht2
      rw [List.length_drop, List.length_cons (a := 46)] at h
      omega
    have hd2 := digF_le t2
    have hdt2 : s.drop (j + digF (c :: t) + 1) = t2 := by
      rw [← List.drop_drop, hdrop, ht2]
      rfl
    rw [ht2, preOne, decide_eq_true rfl] at hat
    have HDG2 : Hid (∀ p : Nat, j + digF (c :: t) + 1 ≤ p → p ≤ j + (digF (c :: t) + 1 + digF t2) → Tells 19 #[.string (ba' s), .int .i64 (p : Nat)] (decide (p < j + (digF (c :: t) + 1 + digF t2)))) := Lib.hid fun p h1 h2 W => by
      obtain ⟨d, rfl⟩ : ∃ d, p = j + digF (c :: t) + 1 + d := ⟨p - (j + digF (c :: t) + 1), by omega⟩
      have h := dig_call s (j + digF (c :: t) + 1) (by omega) (by omega) d (by rw [hdt2]; omega) W
      rw [hdt2] at h
      have e : decide (j + digF (c :: t) + 1 + d < j + (digF (c :: t) + 1 + digF t2)) = decide (d < digF t2) := decide_eq_decide.2 (by omega)
      rw [e]
      exact h
    unfold numT
    rw [hk2]
    simp only
    by_cases hlt : letterF ((c :: t).drop (digF (c :: t) + 1 + digF t2)) = true
    · rw [if_pos hlt, atV_no]
      have hy := hyes _ hlt
      exact nx_numDx s i j hs hj w HSK c hc h36 h34 h39 HNM _ HD0 h46 HD1 _ (by omega) (by omega) HDG (Lib.hid hat) _ (by omega) (by omega) HDG2 _ (Lib.hid (by omega)) (hE _ (by omega)) _ (hwx _ (by omega))
    · rw [if_neg hlt, atV_yes _ _ _ _ (by omega)]
      have hy := hnop _ hlt
      exact nx_numD s i j hs hj w HSK c hc h36 h34 h39 HNM _ HD0 h46 HD1 _ (by omega) (by omega) HDG (Lib.hid hat) _ (by omega) (by omega) HDG2 _ (Lib.hid (by omega)) (hE _ (by omega)) _ (hwx _ (by omega))
  · have hk2 : numK (c :: t) = (3, digF (c :: t)) := by
      rw [hk]
      rcases hz : (c :: t).drop (digF (c :: t)) with _ | ⟨d, t2⟩
      · rfl
      · show (if d = 46 then _ else _) = _
        rw [if_neg]
        intro e
        exact hdot ⟨t2, by rw [hz, e]⟩
    have hpf : Lib.hasPrefix ((c :: t).drop (digF (c :: t))) [46] = false := by
      rcases hz : (c :: t).drop (digF (c :: t)) with _ | ⟨d, t2⟩
      · rfl
      · rw [preOne]
        refine decide_eq_false fun e => ?_
        exact hdot ⟨t2, by rw [hz, e]⟩
    rw [hpf] at hat
    have hd0 : 0 < digF (c :: t) := by
      rcases hnum with h | h
      · exact h
      · rcases Nat.eq_zero_or_pos (digF (c :: t)) with h0 | h0
        · exfalso
          rw [h0] at hdot
          exact hdot ⟨t, by rw [h.1]; rfl⟩
        · exact h0
    unfold numT
    rw [hk2]
    simp only
    by_cases hlt : letterF ((c :: t).drop (digF (c :: t))) = true
    · rw [if_pos hlt, atV_no]
      have hy := hyes _ hlt
      exact nx_numx s i j hs hj w HSK c hc h36 h34 h39 HNM _ HD0 h46 HD1 _ (by omega) (by omega) HDG (Lib.hid hat) _ (Lib.hid (by omega)) (hE _ (by omega)) _ (hwx _ (by omega))
    · rw [if_neg hlt, atV_yes _ _ _ _ (by omega)]
      have hy := hnop _ hlt
      exact nx_num s i j hs hj w HSK c hc h36 h34 h39 HNM _ HD0 h46 HD1 _ (by omega) (by omega) HDG (Lib.hid hat) _ (Lib.hid (by omega)) (hE _ (by omega)) _ (hwx _ (by omega))
theorem sign_case (s : List UInt8) (i j : Nat) (c : UInt8) (t : List UInt8) (hs : s.length ≤ 65536) (hv : validX s = true) (hj : j < s.length) (hl : s.drop j = c :: t) (h36 : ((c.toNat : Int) == 36) = false) (h34 : ((c.toNat : Int) == 34) = false) (h39 : ((c.toNat : Int) == 39) = false) (hno : plainF (c :: t) = [])
    (hnum : ¬ (0 < digF (c :: t) ∨ (c = 46 ∧ 0 < digF t))) (w : World)
    (HSK : Hid (∀ W, Calls Tryz.prog 15 #[.string (ba' s), .int .i64 (i : Nat)] W fun e w' => e = .returned (.int .i64 (j : Nat)) ∧ w' = W)) (hc : s[j]'hj = c) :
    Calls Tryz.prog 9 #[.string (ba' s), .int .i64 (i : Nat)] w fun e w' => e = .returned (atV j (if signF (c :: t) = [] then (1, qualF (c :: t), (qualF (c :: t)).length) else (6, signF (c :: t), (signF (c :: t)).length))) ∧ Below w.heap.size w w' := by
  have hll : (c :: t).length = s.length - j := by rw [← List.length_drop, hl]
  have hgood : GoodT (s.drop j) := good_drop _ s j (Nat.le_refl _) hv
  have HNM : Hid (Place 16 s (j : Nat) (j : Nat)) := Lib.hid fun W => by
    have h := nameR_at s j (by omega) (by omega) hgood W
    rwa [hl, hno] at h
  have hdt : s.drop (j + 1) = t := by rw [← List.drop_drop, hl]; rfl
  have h0 : ¬ 0 < digF (c :: t) := fun e => hnum (.inl e)
  have HD0 : Hid (Tells 19 #[.string (ba' s), .int .i64 (j : Nat)] false) := Lib.hid fun W => by
    have h := dig_call s j (by omega) (by omega) 0 (Nat.zero_le _) W
    rw [hl, decide_eq_false h0] at h
    exact h
  have HD1 : ((c.toNat : Int) == 46) = true → Hid (Tells 19 #[.string (ba' s), .int .i64 ((j : Int) + 1)] false) := by
    intro e
    have hc46 : c = 46 := by
      rw [beq_iff_eq] at e
      exact UInt8.toNat_inj.1 (by show c.toNat = 46; omega)
    have h1 : ¬ 0 < digF t := fun e => hnum (.inr ⟨hc46, e⟩)
    refine Lib.hid fun W => ?_
    have h := dig_call s (j + 1) (by omega) (by simp only [List.length_cons] at hll; omega) 0 (Nat.zero_le _) W
    rw [hdt, decide_eq_false h1] at h
    exact h
  have hsg : signR (s.drop j) = signF (c :: t) := by rw [hl, sign_is]
  refine nx_sign s i j hs hj w HSK c hc h36 h34 h39 HNM HD0 _ rfl HD1 (signF (c :: t)) hsg _ (Lib.hid fun hz => ?_) (Lib.hid fun hz => ?_)
  · rw [if_pos hz, qual_no hno]
    rfl
  · have hp : 0 < (signF (c :: t)).length := List.length_pos_iff.2 hz
    rw [if_neg hz, atV_yes _ _ _ _ (by omega)]
    rfl
/-- The reference's Next is the lexer's, at any place of a valid text. -/
theorem nextR_any (s : List UInt8) (hs : s.length ≤ 65536) (hv : validX s = true) (i : Nat) (hi : i ≤ s.length) (w : World) : Calls Tryz.prog 9 #[.string (ba' s), .int .i64 (i : Nat)] w fun e w' => e = .returned (tokV (nextF s i)) ∧ Below w.heap.size w w' := by
  have hsk := fun W => skip_any s i (by omega) hi W
  rw [skip_is] at hsk
  unfold nextF
  cases hp : passF (s.drop i) with
  | none =>
    rw [hp] at hsk
    exact nx_bad s i w (Lib.hid hsk)
  | some l =>
    have hl := passF_place hp
    have hle := passF_le hp
    rw [List.length_drop] at hle
    rw [hp] at hsk
    change ∀ W, Calls Tryz.prog 15 #[.string (ba' s), .int .i64 (i : Nat)] W fun e w' => e = .returned (.int .i64 ((s.length - l.length : Nat) : Int)) ∧ w' = W at hsk
    simp only
    obtain ⟨j, hj⟩ : ∃ j, s.length - l.length = j := ⟨_, rfl⟩
    rw [hj] at hl hsk ⊢
    by_cases h0 : l = []
    · rw [if_pos h0]
      have hjs : j = s.length := by rw [h0] at hj; simp only [List.length_nil] at hj; omega
      have h := nx_end s i j hs hjs w (Lib.hid hsk) trivial
      rw [hjs] at h
      exact h
    · rw [if_neg h0]
      show Calls _ _ _ _ fun e w' => e = .returned (atV j (tokF l)) ∧ _
      have hjl : j < s.length := by
        have : 0 < l.length := List.length_pos_iff.2 h0
        omega
      by_cases hlet : letterF l = true
      · obtain ⟨c, t, rfl⟩ : ∃ c t, l = c :: t := by cases l with | nil => exact absurd rfl h0 | cons c t => exact ⟨c, t, rfl⟩
        rw [tok_letter hlet]
        exact name_case s i j (c :: t) hs hv hjl hl.symm hlet w (Lib.hid hsk)
      · obtain ⟨c, t, rfl⟩ : ∃ c t, l = c :: t := by cases l with | nil => exact absurd rfl h0 | cons c t => exact ⟨c, t, rfl⟩
        have hno : plainF (c :: t) = [] := by unfold plainF; rw [if_neg hlet]
        have hc : s[j]'hjl = c := by
          have h := hl
          rw [List.drop_eq_getElem_cons hjl] at h
          exact (List.cons.inj h).1.symm
        rw [tok_cons]
        by_cases h36 : c = 36
        · subst h36
          rw [if_pos rfl]
          exact var_case s i j t hs hv hjl hl.symm hno w (Lib.hid hsk) hc
        rw [if_neg h36]
        by_cases hq : c = 34 ∨ c = 39
        · rw [if_pos hq]
          exact quo_case s i j c t hs hv hjl hl.symm hq hno w (Lib.hid hsk) hc
        rw [if_neg hq]
        have q36 : ((c.toNat : Int) == 36) = false := nat_ne (b := 36) h36
        have q34 : ((c.toNat : Int) == 34) = false := nat_ne (b := 34) fun e => hq (.inl e)
        have q39 : ((c.toNat : Int) == 39) = false := nat_ne (b := 39) fun e => hq (.inr e)
        by_cases hnum : 0 < digF (c :: t) ∨ (c = 46 ∧ 0 < digF t)
        · rw [if_pos hnum]
          exact num_case s i j c t hs hv hjl hl.symm q36 q34 q39 hno hnum w (Lib.hid hsk) hc
        · rw [if_neg hnum]
          exact sign_case s i j c t hs hv hjl hl.symm q36 q34 q39 hno hnum w (Lib.hid hsk) hc
end Go.Proofs.YtolkfhiominjbaaGreatDoor
