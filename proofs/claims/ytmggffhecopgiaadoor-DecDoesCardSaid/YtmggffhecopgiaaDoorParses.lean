/- Package dec reads numbers. No condition beyond what the theorems state. -/
import Derived.Test.YtmggffhecopgiaaDoorReads
namespace Go.Proofs
open Go.Shelf Go.RowKit Go.Proofs.Wide

def behindL (r : List UInt8) : List UInt8 × List UInt8 := if r.head? = some 46 then (r.tail.takeWhile isD, r.tail.dropWhile isD) else ([], r)
/-- A text as a number. -/
def parseP (neg : Bool) (a b r2 : List UInt8) : Int × Int × Int :=
  if r2 ≠ [] ∨ a ++ b = [] then (0, 0, 12)
  else if 18 < (a.dropWhile (· == 48)).length then (0, 0, 53)
  else (outN (fitZ (if neg = true then -valL (a.dropWhile (· == 48) ++ b.take 9) else valL (a.dropWhile (· == 48) ++ b.take 9)) (b.take 9).length),
        outK (fitZ (if neg = true then -valL (a.dropWhile (· == 48) ++ b.take 9) else valL (a.dropWhile (· == 48) ++ b.take 9)) (b.take 9).length),
        outE (fitZ (if neg = true then -valL (a.dropWhile (· == 48) ++ b.take 9) else valL (a.dropWhile (· == 48) ++ b.take 9)) (b.take 9).length))
def parseZ (l : List UInt8) : Int × Int × Int :=
  parseP (signL l).2 ((signL l).1.takeWhile isD) (behindL ((signL l).1.dropWhile isD)).1 (behindL ((signL l).1.dropWhile isD)).2
theorem signL_len (l : List UInt8) : (signL l).1.length ≤ l.length := by unfold signL; split <;> (try split) <;> simp
theorem app_ba (a b : List UInt8) : ba' a ++ ba' b = ba' (a ++ b) := by
  apply ByteArray.ext
  unfold ba'
  rw [ByteArray.data_append]
  apply Array.toList_inj.1
  simp
theorem toList_ba (a : List UInt8) : (ba' a).toList = a := by rw [Lib.toList_data]; rfl
theorem valL_bound (l : List UInt8) (h : l.all isD = true) : 0 ≤ valL l ∧ valL l < 10 ^ l.length := by
  have key : ∀ (l : List UInt8) (v : Int), l.all isD = true → 0 ≤ v → 0 ≤ l.foldl (fun v c => v * 10 + ((c.toNat : Int) - 48)) v ∧ l.foldl (fun v c => v * 10 + ((c.toNat : Int) - 48)) v < (v + 1) * 10 ^ l.length := by
    intro l
    induction l with
    | nil => intro v _ hv; simp; omega
    | cons c l ih =>
      intro v ha hv
      simp only [List.all_cons, Bool.and_eq_true] at ha
      have hc := ha.1
      unfold isD at hc
      simp only [decide_eq_true_eq] at hc
      have := ih (v * 10 + ((c.toNat : Int) - 48)) ha.2 (by omega)
      rw [List.foldl_cons, List.length_cons, Int.pow_succ]
      refine ⟨this.1, Int.lt_of_lt_of_le this.2 ?_⟩
      have e : (v + 1) * (10 ^ l.length * 10) = ((v + 1) * 10) * 10 ^ l.length := by rw [Int.mul_assoc, Int.mul_comm 10]
      rw [e]
      exact Int.mul_le_mul_of_nonneg_right (by omega) (Int.le_of_lt (ten_pos _))
  have := key l 0 h (by decide)
  unfold valL
  simpa using this
theorem all_drop {p q : UInt8 → Bool} : ∀ (l : List UInt8), l.all p = true → (l.dropWhile q).all p = true := by
  intro l
  induction l with
  | nil => intro _; rfl
  | cons c l ih =>
    intro h
    rw [List.dropWhile_cons]
    split
    · exact ih (by simp at h ⊢; exact h.2)
    · exact h
theorem all_takeWhile (l : List UInt8) : (l.takeWhile isD).all isD = true := by
  exact List.all_takeWhile

set_option maxRecDepth 100000 in
set_option maxHeartbeats 8000000 in
theorem parse_core (l s a r b r2 : List UInt8) (neg : Bool) (w0 : World) (hl : l.length ≤ 3000) (hs : (signL l) = (s, neg)) (ha : s.takeWhile isD = a) (hr : s.dropWhile isD = r) (hb : behindL r = (b, r2)) (pn pk pe : Int) (HP : Hid (parseP neg a b r2 = (pn, pk, pe))) :
    Calls Tryd.prog 14 #[.string (ba' l)] w0 fun e w' => e = .returned (.tuple #[.agg #[.int .i64 pn, .int .i64 pk], .int .i64 pe]) ∧ Below w0.heap.size w0 w' := by
  have hsl : s.length ≤ 3000 := by have := signL_len l; rw [hs] at this; simp only at this; omega
  have hrl : r.length ≤ 3000 := by rw [← hr]; have := (List.dropWhile_sublist isD (l := s)).length_le; omega
  have hal : a.length ≤ 3000 := by rw [← ha]; have := (List.takeWhile_sublist isD (l := s)).length_le; omega
  have had : a.all isD = true := by rw [← ha]; exact all_takeWhile s
  have HS : Hid (∀ w, Calls Tryd.prog 35 #[.string (ba' l)] w fun e w' => e = .returned (.tuple #[.string (ba' s), .bool neg]) ∧ w = w') := Lib.hid fun w => by
    have := sign_any l hl w
    rw [hs] at this
    exact this
  have HD : Hid (Gives 36 #[.string (ba' s)] (.tuple #[.string (ba' a), .string (ba' r)])) := gives_unfold fun w => by
    have := digits_any s hsl w
    rw [ha, hr] at this
    exact this
  have hbl : b.length ≤ 3000 := by
    have : b = (behindL r).1 := by rw [hb]
    rw [this]; unfold behindL; split
    · have := (List.takeWhile_sublist isD (l := r.tail)).length_le; simp at this ⊢; omega
    · simp
  have hbd : b.all isD = true := by
    have : b = (behindL r).1 := by rw [hb]
    rw [this]; unfold behindL; split
    · exact all_takeWhile _
    · rfl
  have hszr := size_ba r
  clear ha hr hs
  go_enter Tryd.func14, Tryd.ntmps14
  go_upto_if 19 with (first
    | (go_at_call 35; refine (HS.out _).mono ?_; rintro e w' ⟨rfl, rfl⟩)
    | (go_at_call 36; refine (HD.out.call _).mono ?_; rintro e w1 ⟨rfl, hb1⟩; have O1 := (Own.new_at (by simp) : Own (w0.alloc (.cells #[.int .i64 0, .int .i64 0] 23)) w0.heap.size (.int .i64 0) (.int .i64 0)).call hb1)
    | (go_at_call 37; refine (hasPrefix_one r 46 _).mono ?_; rintro e w' ⟨rfl, rfl⟩))
  go_cut [4, 7] (fun s4 s7 wx => s4 = .string (ba' r2) ∧ s7 = .string (ba' b) ∧ Below w0.heap.size w0 wx ∧ ∃ u v, Own wx w0.heap.size u v)
  case first =>
    by_cases hp : r.head? = some 46
    · have hdp : decide (r.head? = some 46) = true := by simpa using hp
      have e1 : behindL r = (r.tail.takeWhile isD, r.tail.dropWhile isD) := by unfold behindL; rw [if_pos hp]
      rw [hb] at e1
      injection e1 with e1 e2
      have HD2 : Hid (Gives 36 #[.string (ba' r.tail)] (.tuple #[.string (ba' b), .string (ba' r2)])) := gives_unfold fun w => by
        have := digits_any r.tail (by simp; omega) w
        rw [← e1, ← e2] at this
        exact this
      have hr1 : (1 : Int) ≤ (r.length : Int) := by
        cases r with
        | nil => simp at hp
        | cons x t => simp; omega
      have hx : (ba' r).extract 1 r.length = ba' r.tail := by rw [extract_ba, List.take_length, List.drop_one]
      have hszr' : ((ba' r).size : Int) = r.length := by rw [hszr]
      clear e1 e2 hp hb
      simp only [hdp]
      go_wp2_with (go_at_call 36; refine (HD2.out.call _).mono ?_; rintro e w2 ⟨rfl, hb2⟩)
      go_meet
      exact ⟨rfl, rfl, by repeat (first | exact Below.refl _ _ | apply ba | (refine bt ?_ (by assumption))), _, _, O1.call hb2⟩
    · have hdp : decide (r.head? = some 46) = false := by simpa using hp
      have e1 : behindL r = ([], r) := by unfold behindL; rw [if_neg hp]
      rw [hb] at e1
      injection e1 with e1 e2
      subst e1
      subst e2
      clear hp hb
      simp only [hdp]
      go_wp2
      go_meet
      exact ⟨rfl, rfl, by repeat (first | exact Below.refl _ _ | apply ba | (refine bt ?_ (by assumption))), _, _, O1⟩
  case rest =>
    obtain ⟨rfl, rfl, HB, u0, v0, OB⟩ := hcut
    have OB' := Lib.hid OB
    obtain ⟨_, _, _, _⟩ := OB
    have ht2 := toList_ba r2
    have happ := app_ba a b
    have hsa : ((ba' a).size : Int) = a.length := by rw [size_ba]
    have hsb : ((ba' b).size : Int) = b.length := by rw [size_ba]
    have hal' : (a.length : Int) ≤ 3000 := by omega
    have hbl' : (b.length : Int) ≤ 3000 := by omega
    by_cases h2 : r2 = []
    · have e2 : (ba' r2).toList = [] := by rw [ht2]; exact h2
      have e2' : (!(ba' r2).toList.isEmpty) = false := by rw [e2]; rfl
      have e2'' : (ba' r2).toList.isEmpty = true := by rw [e2]; rfl
      by_cases hab : a ++ b = []
      · have hP : parseP neg a b r2 = (0, 0, 12) := by unfold parseP; rw [if_pos (.inr hab)]
        have e3 : (ba' (a ++ b)).toList = [] := by rw [toList_ba]; exact hab
        have e3'' : (ba' (a ++ b)).toList.isEmpty = true := by rw [e3]; rfl
        have hq := HP.out
        rw [hP] at hq
        cases hq
        clear hP h2 hab ht2 HP
        go_wp2
        exact bodyPost_ret (v := .tuple #[.agg #[.int .i64 0, .int .i64 0], .int .i64 12]) (by simp [results, Tryd.results14, go_sem, *]) rfl ⟨rfl, bs (bs HB (by simp)) (by simp)⟩
      · have hP : parseP neg a b r2 = (if 18 < (a.dropWhile (· == 48)).length then (0, 0, 53)
            else (outN (fitZ (if neg = true then -valL (a.dropWhile (· == 48) ++ b.take 9) else valL (a.dropWhile (· == 48) ++ b.take 9)) (b.take 9).length),
              outK (fitZ (if neg = true then -valL (a.dropWhile (· == 48) ++ b.take 9) else valL (a.dropWhile (· == 48) ++ b.take 9)) (b.take 9).length),
              outE (fitZ (if neg = true then -valL (a.dropWhile (· == 48) ++ b.take 9) else valL (a.dropWhile (· == 48) ++ b.take 9)) (b.take 9).length))) := by
          unfold parseP; rw [if_neg (by intro h; rcases h with h | h; exact h h2; exact hab h)]
        have e3'' : (ba' (a ++ b)).toList.isEmpty = false := by
          rw [toList_ba]; cases h : a ++ b with
          | nil => exact absurd h hab
          | cons _ _ => rfl
        have e3 : ¬ (ba' (a ++ b)).toList = [] := by rw [toList_ba]; exact hab
        have HT : Hid (Gives 38 #[.string (ba' a), .string ⟨#[48]⟩] (.string (ba' (a.dropWhile (· == 48))))) := gives_unfold fun w => trimLeft_noughts a w
        have hcl : (a.dropWhile (· == 48)).length ≤ a.length := (List.dropWhile_sublist (· == 48) (l := a)).length_le
        have hcd := all_drop (p := isD) (q := (· == 48)) a had
        have hq := HP.out
        rw [hP] at hq
        generalize a.dropWhile (· == 48) = c at *
        have hsc : ((ba' c).size : Int) = c.length := by rw [size_ba]
        have htk : (b.take 9).length = min 9 b.length := List.length_take
        have htd : (b.take 9).all isD = true := by
          rw [List.all_eq_true]; intro x hx; exact List.all_eq_true.1 hbd x (List.mem_of_mem_take hx)
        obtain ⟨m, hm⟩ : ∃ m : Nat, m = min b.length 9 := ⟨_, rfl⟩
        have hmI : min (b.length : Int) 9 = (m : Int) := by omega
        have hmI' : min (9 : Int) (b.length : Int) = (m : Int) := by omega
        have hm9 : m ≤ 9 := by omega
        have hmb : (m : Int) ≤ (b.length : Int) := by omega
        have hbt : b.take 9 = b.take m := by
          by_cases h : b.length ≤ 9
          · rw [List.take_of_length_le h, List.take_of_length_le (by omega)]
          · rw [show m = 9 by omega]
        have hex : (ba' b).extract 0 m = ba' (b.take 9) := by rw [extract_ba, List.drop_zero, hbt]
        have hm0 : (0 : Int) ≤ (m : Int) := by omega
        have htm : (b.take 9).length = m := by omega
        have hst : ((ba' (b.take 9)).size : Int) = m := by rw [size_ba, htm]
        rw [htm] at hq
        by_cases h18 : 18 < c.length
        · have h18' : (18 : Int) < (c.length : Int) := by omega
          rw [if_pos h18] at hq
          cases hq
          clear HP hP h2 hab ht2 htk hbt htd h18 htm hm had hcd hbd
          go_wp2_with (go_at_call 38; refine (HT.out.call _).mono ?_; rintro e w3 ⟨rfl, hb3⟩; obtain ⟨_, _, _, _⟩ := OB'.out.call hb3)
          exact bodyPost_ret (v := .tuple #[.agg #[.int .i64 0, .int .i64 0], .int .i64 53]) (by simp [results, Tryd.results14, go_sem, *]) rfl ⟨rfl, bs (bs (bt HB hb3) (by simp)) (by simp)⟩
        · have h18' : ¬ (18 : Int) < (c.length : Int) := by omega
          rw [if_neg h18] at hq
          have hall : (c ++ b.take 9).all isD = true := by rw [List.all_append, hcd, htd]; rfl
          have hv := valL_bound (c ++ b.take 9) hall
          have hlen : (c ++ b.take 9).length = c.length + m := by rw [List.length_append, htm]
          have hp : (10 : Int) ^ (c ++ b.take 9).length ≤ 1000000000000000000000000000 := by
            have x : (10 : Nat) ^ (c ++ b.take 9).length ≤ 10 ^ 27 := Nat.pow_le_pow_right (by decide) (by omega)
            have e : (((10 : Nat) ^ (c ++ b.take 9).length : Nat) : Int) = 10 ^ (c ++ b.take 9).length := by simp
            rw [← e]; exact Int.ofNat_le.2 x
          have happ2 := app_ba c (b.take 9)
          have HR : Hid (Gives 39 #[.string (ba' (c ++ b.take 9))] (wv (valL (c ++ b.take 9)))) := gives_unfold fun w => read_any (c ++ b.take 9) (by omega) hall w
          have HG : Hid (Gives 40 #[wv (valL (c ++ b.take 9)), .bool neg] (wv (if neg = true then -valL (c ++ b.take 9) else valL (c ++ b.take 9)))) := gives_unfold fun w => signed_any _ neg w
          have HF := gf (z := if neg = true then -valL (c ++ b.take 9) else valL (c ++ b.take 9)) (s := m) (by split <;> omega) (by split <;> omega) (by omega)
          generalize (if neg = true then -valL (c ++ b.take 9) else valL (c ++ b.take 9)) = z at *
          generalize valL (c ++ b.take 9) = y at *
          generalize fitZ z m = q at *
          unfold outV at HF
          generalize outN q = n1 at *
          generalize outK q = n2 at *
          generalize outE q = n3 at *
          rw [wv_agg] at HR
          rw [wv_agg, wv_agg] at HG
          rw [wv_agg] at HF
          have hcl' : (c.length : Int) ≤ 3000 := by omega
          have hml' : (m : Int) ≤ 9 := by omega
          cases hq
          clear HP hP h2 hab ht2 htk hbt htd h18 htm hm had hcd hbd hall hv hlen hp
          go_wp2_with (first
            | (go_at_call 38; refine (HT.out.call _).mono ?_; rintro e w3 ⟨rfl, hb3⟩; have P3 := OB'.out.call hb3)
            | (go_at_call 39; refine (HR.out.call _).mono ?_; rintro e w4 ⟨rfl, hb4⟩; have P4 := P3.call hb4)
            | (go_at_call 40; refine (HG.out.call _).mono ?_; rintro e w5 ⟨rfl, hb5⟩; have P5 := P4.call hb5)
            | (go_at_call 32; refine (HF.out.call _).mono ?_; rintro e w6 ⟨rfl, hb6⟩; obtain ⟨_, _, _, _⟩ := P5.call hb6))
          exact bodyPost_ret (v := .tuple #[.agg #[.int .i64 pn, .int .i64 pk], .int .i64 pe]) (by simp [results, Tryd.results14, go_sem, *]) rfl ⟨rfl, bs (bs (bt (bt (bt (bt HB hb3) hb4) hb5) hb6) (by simp)) (by simp)⟩
    · have hP : parseP neg a b r2 = (0, 0, 12) := by unfold parseP; rw [if_pos (.inl h2)]
      have e2 : ¬ (ba' r2).toList = [] := by rw [ht2]; exact h2
      have e2'' : (ba' r2).toList.isEmpty = false := by
        rw [ht2]; cases r2 with
        | nil => exact absurd rfl h2
        | cons _ _ => rfl
      have hq := HP.out
      rw [hP] at hq
      cases hq
      clear hP h2 ht2 HP
      go_wp2
      exact bodyPost_ret (v := .tuple #[.agg #[.int .i64 0, .int .i64 0], .int .i64 12]) (by simp [results, Tryd.results14, go_sem, *]) rfl ⟨rfl, bs (bs HB (by simp)) (by simp)⟩
theorem parse_any (l : List UInt8) (hl : l.length ≤ 3000) (w0 : World) :
    Calls Tryd.prog 14 #[.string (ba' l)] w0 fun e w' => e = .returned (.tuple #[.agg #[.int .i64 (parseZ l).1, .int .i64 (parseZ l).2.1], .int .i64 (parseZ l).2.2]) ∧ Below w0.heap.size w0 w' :=
  parse_core l (signL l).1 _ _ _ _ (signL l).2 w0 hl rfl rfl rfl rfl _ _ _ (Lib.hid rfl)
end Go.Proofs
