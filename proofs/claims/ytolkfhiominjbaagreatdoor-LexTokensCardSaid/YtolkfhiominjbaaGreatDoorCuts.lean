/- Tokens cut out of a text are those tokens; each token of a valid text parts it. No condition beyond what the theorems state. -/
import Derived.Test.YtolkfhiominjbaaGreatDoorApart
namespace Go.Proofs.YtolkfhiominjbaaGreatDoor
open Go.RowKit Go.Lib
set_option maxRecDepth 100000
set_option maxHeartbeats 4000000
theorem n_nl : nameX [10] = false := by kernel_rfl
theorem decodeN_appN (n m b0 b1 b2 b3 c1 c2 c3 : Nat) (hn : 1 ≤ n) (hm : n < m) (h1 : 1 < n → c1 = b1) (h2 : 2 < n → c2 = b2) (h3 : 3 < n → c3 = b3)
    (k1 : n = 1 → c1 = 10) (k2 : n = 2 → c2 = 10) (k3 : n = 3 → c3 = 10) : decodeN m b0 c1 c2 c3 = decodeN n b0 b1 b2 b3 := by
  rcases n with _ | _ | _ | _ | n
  · omega
  · rw [k1 rfl]; simp [decodeN]
  · rw [k2 rfl, h1 (by omega)]; simp [decodeN, hm]; simp [show 1 < m by omega]
  · rw [k3 rfl, h1 (by omega), h2 (by omega)]; simp [decodeN, show 1 < m by omega, show 2 < m by omega]
  · rw [h1 (by omega), h2 (by omega), h3 (by omega)]; simp [decodeN, show 1 < m by omega, show 2 < m by omega, show 3 < m by omega]
theorem getD_leftN (w r : List UInt8) (i : Nat) (h : i < w.length) : (w ++ 10 :: r).getD i 0 = w.getD i 0 := by
  rw [List.getD_eq_getElem?_getD, List.getD_eq_getElem?_getD, List.getElem?_append_left h]
theorem getD_midN (w r : List UInt8) : (w ++ 10 :: r).getD w.length 0 = 10 := by
  rw [List.getD_eq_getElem?_getD, List.getElem?_append_right (Nat.le_refl _)]
  simp
theorem decode_appN (w r : List UInt8) (p : Nat) (h : p < w.length) : Utf8.decode (ba' (w ++ 10 :: r)) p = Utf8.decode (ba' w) p := by
  rw [decode_ba, decode_ba, getD_leftN w r p h]
  refine decodeN_appN _ _ _ _ _ _ _ _ _ (by omega) (by simp; omega) (fun h1 => ?_) (fun h1 => ?_) (fun h1 => ?_) (fun h1 => ?_) (fun h1 => ?_) (fun h1 => ?_)
  · rw [getD_leftN w r _ (by omega)]
  · rw [getD_leftN w r _ (by omega)]
  · rw [getD_leftN w r _ (by omega)]
  · rw [show p + 1 = w.length by omega, getD_midN]; rfl
  · rw [show p + 2 = w.length by omega, getD_midN]; rfl
  · rw [show p + 3 = w.length by omega, getD_midN]; rfl
theorem decode_midN (w r : List UInt8) : Utf8.decode (ba' (w ++ 10 :: r)) w.length = (10, 1) := by
  rw [decode_ba, getD_midN]
  unfold decodeN
  rw [if_pos (by decide)]
  rfl
theorem letter_blankN (r : List UInt8) : letterF (10 :: r) = false := by
  have h := decode_midN [] r
  unfold letterF decodeGo
  rw [if_neg (by rw [size_ba]; simp)]
  change Utf8.decode (ba' (10 :: r)) 0 = (10, 1) at h
  rw [h]
  exact n_nl
theorem letterF_appN (w r : List UInt8) : letterF (w ++ 10 :: r) = letterF w := by
  rcases w with _ | ⟨c, t⟩
  · rw [letter_nil]; exact letter_blankN r
  · unfold letterF decodeGo
    rw [if_neg (by rw [size_ba]; simp), if_neg (by rw [size_ba]; simp), decode_appN (c :: t) r 0 (by simp)]
    have h := decode_le_rest (c :: t) 0 (by simp)
    rw [List.take_append_of_le_length (by omega)]
theorem blank_nameN : nameX ((⟨#[95]⟩ ++ Utf8.encode ((10 : Nat) : Int) : ByteArray).data.toList) = false := by kernel_rfl
theorem plainGo_appN (w r : List UInt8) : ∀ (f f' p : Nat), p ≤ w.length → w.length < p + f → w.length < p + f' → plainGo (ba' (w ++ 10 :: r)) f' p = plainGo (ba' w) f p
  | 0, _, p, h, h1, _ => by omega
  | _, 0, p, h, _, h2 => by omega
  | f + 1, f' + 1, p, h, h1, h2 => by
    have e1 : (ba' w).size = w.length := size_ba w
    have e2 : (ba' (w ++ 10 :: r)).size = w.length + (r.length + 1) := by rw [size_ba]; simp
    by_cases hp : p < w.length
    · have hw := decode_width_pos (ba' w) p (by rw [e1]; exact hp)
      have hr := decode_le_rest w p hp
      have L := plainGo_step (ba' (w ++ 10 :: r)) f' p
      have R := plainGo_step (ba' w) f p
      rw [if_pos (by rw [e2]; omega), decode_appN w r p hp] at L
      rw [if_pos (by rw [e1]; exact hp)] at R
      rw [L, R]
      split
      · exact plainGo_appN w r f f' _ hr (by omega) (by omega)
      · rfl
    · obtain rfl : p = w.length := by omega
      have L := plainGo_step (ba' (w ++ 10 :: r)) f' w.length
      have R := plainGo_step (ba' w) f w.length
      rw [if_pos (by rw [e2]; omega), decode_midN] at L
      rw [if_neg (by rw [e1]; omega), e1] at R
      rw [L, R]
      simp only
      rw [if_neg (by rw [blank_nameN]; decide)]
theorem plainF_appN (w r : List UInt8) : plainF (w ++ 10 :: r) = plainF w := by
  unfold plainF
  rw [letterF_appN]
  split
  · rw [plainGo_appN w r (w.length + 1) _ 0 (Nat.zero_le _) (by omega) (by simp; omega)]
    exact List.take_append_of_le_length (plainGo_le w _ 0 (Nat.zero_le _))
  · rfl
theorem digF_appN (r : List UInt8) : ∀ w : List UInt8, digF (w ++ 10 :: r) = digF w
  | [] => by rw [List.nil_append, digF_cons]; rfl
  | c :: t => by rw [List.cons_append, digF_cons, digF_cons, digF_appN r t]
theorem two_blankN (c : UInt8) : twosL.contains [c, 10] = false := by
  unfold twosL
  simp
theorem signF_appN (w r : List UInt8) (h : w ≠ []) : signF (w ++ 10 :: r) = signF w := by
  rcases w with _ | ⟨c, _ | ⟨d, t⟩⟩
  · exact absurd rfl h
  · show signF (c :: 10 :: r) = signF [c]
    unfold signF
    simp only
    rw [if_neg (by rw [two_blankN]; decide)]
  · rfl
theorem numK_appN (w r : List UInt8) : numK (w ++ 10 :: r) = numK w := by
  unfold numK
  rw [digF_appN, List.drop_append_of_le_length (digF_le w)]
  cases w.drop (digF w) with
  | nil => rfl
  | cons c t =>
    unfold numH
    simp only [List.cons_append]
    rw [digF_appN]
theorem numT_appN (w r : List UInt8) : numT (w ++ 10 :: r) = numT w := by
  unfold numT
  rw [numK_appN, List.drop_append_of_le_length (numK_le w), letterF_appN, List.take_append_of_le_length (numK_le w)]
theorem qualF_appN (w r : List UInt8) : qualF (w ++ 10 :: r) = qualF w := by
  unfold qualF
  rw [plainF_appN, List.drop_append_of_le_length (plainF_len w)]
  split
  · rfl
  · cases w.drop (plainF w).length with
    | nil => rfl
    | cons c t =>
      simp only [List.cons_append]
      rw [letterF_appN, plainF_appN]
theorem index_appN (r : List UInt8) : ∀ t : List UInt8, 0 ≤ Lib.index t [59] → Lib.index (t ++ 10 :: r) [59] = Lib.index t [59]
  | [], h => by simp [Lib.index] at h
  | b :: t, h => by
    have e : ([59] : List UInt8).isPrefixOf (b :: (t ++ 10 :: r)) = ([59] : List UInt8).isPrefixOf (b :: t) := rfl
    rw [List.cons_append, Lib.index, Lib.index, e]
    rw [Lib.index] at h
    by_cases h1 : ([59] : List UInt8).isPrefixOf (b :: t) = true
    · rw [if_pos h1, if_pos h1]
    · rw [if_neg h1] at h ⊢
      rw [if_neg h1]
      by_cases h2 : (Lib.index t [59] == -1) = true
      · rw [if_pos h2] at h; omega
      · rw [if_neg h2] at h
        have h3 : Lib.index t [59] ≠ -1 := by simpa using h2
        rw [index_appN r t (by omega)]
theorem cutF_appN {t m rest : List UInt8} (r : List UInt8) (h : cutF t = some (m, rest)) : cutF (t ++ 10 :: r) = some (m, rest ++ 10 :: r) := by
  unfold cutF at h ⊢
  by_cases hi : 0 ≤ Lib.index t [59]
  · have hl := index_lt t hi
    have e1 : Lib.cut t [59] = (t.take (Lib.index t [59]).toNat, t.drop ((Lib.index t [59]).toNat + 1), true) := by unfold Lib.cut; rw [if_pos hi]; rfl
    have e2 : Lib.cut (t ++ 10 :: r) [59] = (t.take (Lib.index t [59]).toNat, t.drop ((Lib.index t [59]).toNat + 1) ++ 10 :: r, true) := by
      unfold Lib.cut
      rw [index_appN r t hi, if_pos hi]
      simp only [List.length_cons, List.length_nil]
      rw [List.take_append_of_le_length (by omega), List.drop_append_of_le_length (by omega)]
    rw [e1] at h
    rw [e2]
    simp only at h ⊢
    rw [if_pos trivial] at h ⊢
    cases hm : meanF (t.take (Lib.index t [59]).toNat) with
    | none => rw [hm] at h; cases h
    | some m' =>
      rw [hm] at h
      simp only [Option.map_some, Option.some.injEq, Prod.mk.injEq] at h ⊢
      obtain ⟨rfl, rfl⟩ := h
      exact ⟨rfl, rfl⟩
  · have e1 : Lib.cut t [59] = (t, [], false) := by unfold Lib.cut; rw [if_neg hi]
    rw [e1] at h
    cases h
theorem readF_appN (q : UInt8) (hq : q ≠ 10) (r : List UInt8) : ∀ (f f' : Nat) (l acc m left : List UInt8), l.length + r.length + 1 < f' → readF q f l acc = some (m, left) → left ≠ [] → readF q f' (l ++ 10 :: r) acc = some (m, left ++ 10 :: r)
  | 0, _, _, _, _, _, _, h, _ => by cases h
  | _, 0, _, _, _, _, h, _, _ => by omega
  | f + 1, f' + 1, [], acc, m, left, _, h, hne => by cases h; exact absurd rfl hne
  | f + 1, f' + 1, a :: t, acc, m, left, hf, h, hne => by
    rw [List.cons_append]
    simp only [List.length_cons] at hf
    unfold readF at h ⊢
    by_cases h38 : a = 38
    · rw [if_pos h38] at h ⊢
      cases hc : cutF t with
      | none => rw [hc] at h; cases h
      | some p =>
        obtain ⟨m', rest⟩ := p
        rw [hc] at h
        rw [cutF_appN r hc]
        have := (cutF_len hc).1
        exact readF_appN q hq r f f' rest _ m left (by omega) h hne
    · rw [if_neg h38] at h ⊢
      by_cases haq : a = q
      · rw [if_pos haq] at h ⊢
        rcases t with _ | ⟨b, t'⟩
        · cases h
          simp only [List.nil_append]
          rw [if_neg (fun e => hq e.symm)]
          rfl
        · simp only [List.cons_append] at h ⊢
          by_cases hb : b = q
          · rw [if_pos hb] at h ⊢
            simp only [List.length_cons] at hf
            exact readF_appN q hq r f f' t' _ m left (by omega) h hne
          · rw [if_neg hb] at h ⊢
            cases h
            rfl
      · rw [if_neg haq] at h ⊢
        exact readF_appN q hq r f f' t _ m left (by omega) h hne
theorem tokF_appN (w r : List UInt8) (hne : w ≠ []) (hsz : (tokF w).2.2 = w.length) : tokF (w ++ 10 :: r) = tokF w := by
  rcases w with _ | ⟨c, t⟩
  · exact absurd rfl hne
  rw [List.cons_append, tok_cons, tok_cons]
  rw [tok_cons] at hsz
  by_cases h36 : c = 36
  · rw [if_pos h36, if_pos h36]
    unfold varF
    rw [plainF_appN]
  rw [if_neg h36] at hsz
  rw [if_neg h36, if_neg h36]
  by_cases hq : c = 34 ∨ c = 39
  · rw [if_pos hq] at hsz
    rw [if_pos hq, if_pos hq]
    unfold quoF at hsz ⊢
    cases hr : readF c (t.length + 1) t [] with
    | none => rw [hr] at hsz; simp at hsz
    | some p =>
      obtain ⟨m, left⟩ := p
      rw [hr] at hsz
      simp only at hsz
      by_cases h0 : left = []
      · rw [if_pos h0] at hsz; simp at hsz
      · have hl := readF_left c _ _ _ _ _ hr
        rw [readF_appN c (by rcases hq with rfl | rfl <;> decide) r _ ((t ++ 10 :: r).length + 1) t [] m left (by simp only [List.length_append, List.length_cons]; omega) hr h0]
        simp only
        rw [if_neg h0, if_neg (by simp)]
        simp only [List.length_append, List.length_cons, Prod.mk.injEq, true_and]
        omega
  rw [if_neg hq, if_neg hq]
  have e1 : c :: (t ++ 10 :: r) = (c :: t) ++ 10 :: r := rfl
  rw [e1, digF_appN, digF_appN, numT_appN, signF_appN (c :: t) r (by simp), qualF_appN]
end Go.Proofs.YtolkfhiominjbaaGreatDoor
namespace Go.Proofs.YtolkfhiominjbaaGreatDoor
open Go.RowKit Go.Lib
set_option maxRecDepth 100000
set_option maxHeartbeats 8000000
theorem getD_app (w y : List UInt8) (i : Nat) (h : i < w.length) : (w ++ y).getD i 0 = w.getD i 0 := by
  rw [List.getD_eq_getElem?_getD, List.getD_eq_getElem?_getD, List.getElem?_append_left h]
theorem decodeN_cut (n m b0 b1 b2 b3 c1 c2 c3 : Nat) (hn : 1 ≤ n) (hm : n ≤ m) (h1 : 1 < n → c1 = b1) (h2 : 2 < n → c2 = b2) (h3 : 3 < n → c3 = b3)
    (hw : (decodeN m b0 c1 c2 c3).2 ≤ n) : decodeN n b0 b1 b2 b3 = decodeN m b0 c1 c2 c3 := by
  obtain ⟨r, hr⟩ : ∃ r, decodeN m b0 c1 c2 c3 = r := ⟨_, rfl⟩
  rw [hr] at hw ⊢
  unfold decodeN at hr
  rcases n with _ | _ | _ | _ | n
  · omega
  · repeat' split at hr
    all_goals (subst hr; first | (simp at hw; done) | skip)
    all_goals unfold decodeN
    all_goals (repeat' split)
    all_goals first | rfl | (exfalso; omega)
  · have e1 := h1 (by omega)
    subst e1
    repeat' split at hr
    all_goals (subst hr; first | (simp at hw; done) | skip)
    all_goals unfold decodeN
    all_goals (repeat' split)
    all_goals first | rfl | (exfalso; omega)
  · have e1 := h1 (by omega)
    have e2 := h2 (by omega)
    subst e1
    subst e2
    repeat' split at hr
    all_goals (subst hr; first | (simp at hw; done) | skip)
    all_goals unfold decodeN
    all_goals (repeat' split)
    all_goals first | rfl | (exfalso; omega)
  · have e1 := h1 (by omega)
    have e2 := h2 (by omega)
    have e3 := h3 (by omega)
    subst e1
    subst e2
    subst e3
    repeat' split at hr
    all_goals subst hr
    all_goals unfold decodeN
    all_goals (repeat' split)
    all_goals first | rfl | (exfalso; omega)
/-- A character that lies within the first part is the first part's. -/
theorem decode_cut (w y : List UInt8) (p : Nat) (h : p < w.length) (hw : p + (Utf8.decode (ba' (w ++ y)) p).2 ≤ w.length) : Utf8.decode (ba' w) p = Utf8.decode (ba' (w ++ y)) p := by
  rw [decode_ba] at hw
  rw [decode_ba, decode_ba]
  rw [getD_app w y p h] at hw ⊢
  refine decodeN_cut _ _ _ _ _ _ _ _ _ (by omega) (by simp only [List.length_append]; omega) (fun h1 => ?_) (fun h1 => ?_) (fun h1 => ?_) (by omega)
  · rw [getD_app w y _ (by omega)]
  · rw [getD_app w y _ (by omega)]
  · rw [getD_app w y _ (by omega)]
theorem plainGo_mono (l : List UInt8) : ∀ (f p : Nat), p ≤ l.length → p ≤ plainGo (ba' l) f p
  | 0, p, _ => Nat.le_refl _
  | f + 1, p, h => by
    rw [plainGo_step]
    split
    · rename_i h1
      rw [size_ba] at h1
      split
      · have := plainGo_mono l f _ (decode_le_rest l p h1)
        omega
      · exact Nat.le_refl _
    · rw [size_ba]; exact h
/-- Where the longest plain name ends, if it ends within the first part. -/
theorem plainGo_cut (w y : List UInt8) (e : Nat) (he : e ≤ w.length) (hst : e < w.length → (w.getD e 0).toNat < 128) : ∀ (f f' p : Nat), plainGo (ba' (w ++ y)) f p = e → p ≤ e → (w ++ y).length < p + f → w.length < p + f' → plainGo (ba' w) f' p = e
  | 0, _, p, _, hp, h1, _ => by simp only [List.length_append] at h1; omega
  | _, 0, p, _, hp, _, h2 => by omega
  | f + 1, f' + 1, p, h, hp, h1, h2 => by
    have e1 : (ba' w).size = w.length := size_ba w
    have e2 : (ba' (w ++ y)).size = w.length + y.length := by rw [size_ba, List.length_append]
    simp only [List.length_append] at h1
    rw [plainGo_step] at h ⊢
    by_cases hpw : p < w.length
    · rw [if_pos (by rw [e2]; omega)] at h
      rw [if_pos (by rw [e1]; exact hpw)]
      by_cases hnm : nameX (⟨#[95]⟩ ++ Utf8.encode ((Utf8.decode (ba' (w ++ y)) p).1 : Int) : ByteArray).data.toList = true
      · rw [if_pos hnm] at h
        have hr := decode_le_rest (w ++ y) p (by simp only [List.length_append]; omega)
        have hm := plainGo_mono (w ++ y) f _ hr
        rw [h] at hm
        have hw := decode_width_pos (ba' (w ++ y)) p (by rw [e2]; omega)
        have hd := decode_cut w y p hpw (by omega)
        rw [hd, if_pos hnm]
        exact plainGo_cut w y e he hst f f' _ h hm (by simp only [List.length_append]; omega) (by omega)
      · rw [if_neg hnm] at h
        subst h
        have hlow := hst hpw
        have hdd : (Utf8.decode (ba' (w ++ y)) p).2 = 1 := by
          rw [decode_ba, getD_app w y p hpw]
          unfold decodeN
          rw [if_pos hlow]
        have hd := decode_cut w y p hpw (by omega)
        rw [hd, if_neg hnm]
    · rw [if_neg (by rw [e1]; exact hpw), e1]
      omega
theorem letter_cut (w y : List UInt8) (hne : w ≠ []) (h : (Utf8.decode (ba' (w ++ y)) 0).2 ≤ w.length) : letterF (w ++ y) = letterF w := by
  have hw : 0 < w.length := by cases w with | nil => exact absurd rfl hne | cons => simp
  unfold letterF decodeGo
  rw [if_neg (by rw [size_ba, List.length_append]; omega), if_neg (by rw [size_ba]; omega), decode_cut w y 0 hw (by omega), List.take_append_of_le_length h]
/-- A plain name that ends within the first part. -/
theorem plainF_cut (w y z : List UInt8) (hz : plainF (w ++ y) = z) (hne : z ≠ []) (hl : z.length ≤ w.length) (hst : z.length < w.length → (w.getD z.length 0).toNat < 128) : plainF w = z ∧ z = w.take z.length ∧ letterF w = true := by
  have hzl : 0 < z.length := by cases z with | nil => exact absurd rfl hne | cons => simp
  unfold plainF at hz ⊢
  cases hlf : letterF (w ++ y) with
  | false => rw [hlf] at hz; exact absurd hz.symm hne
  | true =>
    rw [hlf, if_pos rfl] at hz
    have hgl := plainGo_le (w ++ y) ((w ++ y).length + 1) 0 (Nat.zero_le _)
    obtain ⟨e, he⟩ : ∃ e, plainGo (ba' (w ++ y)) ((w ++ y).length + 1) 0 = e := ⟨_, rfl⟩
    rw [he] at hz hgl
    have hze : z.length = e := by rw [← hz, List.length_take]; omega
    subst hze
    have hc := plainGo_cut w y z.length hl hst ((w ++ y).length + 1) (w.length + 1) 0 he (Nat.zero_le _) (by omega) (by omega)
    have hd : (Utf8.decode (ba' (w ++ y)) 0).2 ≤ w.length := by
      have he' := he
      rw [plainGo_step, if_pos (by rw [size_ba, List.length_append]; omega)] at he'
      split at he'
      · have hr := decode_le_rest (w ++ y) 0 (by rw [List.length_append]; omega)
        have hm := plainGo_mono (w ++ y) (w ++ y).length _ hr
        rw [he'] at hm
        omega
      · omega
    have hlw : letterF w = true := by rw [← letter_cut w y (by intro e; rw [e] at hl; simp only [List.length_nil] at hl; omega) hd]; exact hlf
    rw [hlw, if_pos rfl, hc]
    have h2 : w.take z.length = z := by
      rw [List.take_append_of_le_length hl] at hz
      exact hz
    exact ⟨h2, h2.symm, rfl⟩
theorem digF_cut (y : List UInt8) : ∀ w : List UInt8, digF (w ++ y) ≤ w.length → digF w = digF (w ++ y)
  | [], h => by simp at h; rw [List.nil_append, h]; rfl
  | c :: t, h => by
    rw [List.cons_append, digF_cons] at h ⊢
    rw [digF_cons]
    split
    · rename_i hc
      rw [if_pos hc] at h
      simp only [List.length_cons] at h
      rw [digF_cut y t (by omega)]
    · rfl
theorem numT_cut (w y : List UInt8) (h : (numT (w ++ y)).2.2 = w.length) (hne : w ≠ []) : numT w = numT (w ++ y) := by
  have hw : 0 < w.length := by cases w with | nil => exact absurd rfl hne | cons => simp
  have hK : numK w = numK (w ++ y) ∧ (numK (w ++ y)).2 = w.length := by
    unfold numT at h
    split at h
    · simp only at h; omega
    · simp only at h
      refine ⟨?_, h⟩
      unfold numK at h ⊢
      unfold numH at h ⊢
      cases hd : (w ++ y).drop (digF (w ++ y)) with
      | nil =>
        rw [hd] at h
        simp only at h
        rw [digF_cut y w (by omega), h, List.drop_length]
      | cons c t =>
        rw [hd] at h
        simp only at h
        split at h
        · rename_i hc
          simp only at h
          have hdl : digF (w ++ y) ≤ w.length := by omega
          rw [digF_cut y w hdl]
          have hwd := hd
          rw [List.drop_append_of_le_length hdl] at hwd
          rcases hx : w.drop (digF (w ++ y)) with _ | ⟨c2, t2⟩
          · have := congrArg List.length hx
            rw [List.length_drop] at this
            simp at this
            omega
          · rw [hx] at hwd
            simp only [List.cons_append, List.cons.injEq] at hwd
            obtain ⟨rfl, rfl⟩ := hwd
            simp only
            rw [if_pos hc, if_pos hc, digF_cut y t2 (by
              have := congrArg List.length hx
              rw [List.length_drop] at this
              simp only [List.length_cons] at this
              omega)]
        · rename_i hc
          simp only at h
          rw [digF_cut y w (by omega), h, List.drop_length]
          simp only
          rw [if_neg hc]
  have hlen := hK.2
  have hl0 : letterF ((w ++ y).drop (numK (w ++ y)).2) = false := by
    cases hb : letterF ((w ++ y).drop (numK (w ++ y)).2) with
    | false => rfl
    | true =>
      unfold numT at h
      rw [if_pos hb] at h
      simp only at h
      omega
  unfold numT
  rw [hK.1, hl0, hlen, List.drop_length, letter_nil, List.take_append_of_le_length (Nat.le_refl _)]
theorem signF_cut (w y : List UInt8) (hne : w ≠ []) (h : signF (w ++ y) = [] ∨ (signF (w ++ y)).length = w.length) : signF w = signF (w ++ y) := by
  rcases w with _ | ⟨c, _ | ⟨d, t⟩⟩
  · exact absurd rfl hne
  · rcases y with _ | ⟨d, y⟩
    · rfl
    · have e : signF ([c] ++ d :: y) = if twosL.contains [c, d] = true then [c, d] else oneF c := rfl
      rw [e] at h ⊢
      split at h
      · rename_i hc
        simp at h
      · rename_i hc
        rw [if_neg hc]
        rfl
  · rfl
end Go.Proofs.YtolkfhiominjbaaGreatDoor
namespace Go.Proofs.YtolkfhiominjbaaGreatDoor
open Go.RowKit Go.Lib
set_option maxRecDepth 100000
set_option maxHeartbeats 4000000
theorem index_split : ∀ (t : List UInt8), 0 ≤ Lib.index t [59] → t = t.take (Lib.index t [59]).toNat ++ 59 :: t.drop ((Lib.index t [59]).toNat + 1) ∧ ∀ x ∈ t.take (Lib.index t [59]).toNat, x ≠ 59
  | [], h => by simp [Lib.index] at h
  | b :: t, h => by
    have ih := index_split t
    rw [Lib.index] at h ⊢
    by_cases h1 : ([59] : List UInt8).isPrefixOf (b :: t) = true
    · rw [if_pos h1]
      simp [List.isPrefixOf] at h1
      subst h1
      exact ⟨rfl, fun x hx => by simp at hx⟩
    · rw [if_neg h1] at h ⊢
      by_cases h2 : (Lib.index t [59] == -1) = true
      · rw [if_pos h2] at h; omega
      · rw [if_neg h2] at h ⊢
        have h3 : Lib.index t [59] ≠ -1 := by simpa using h2
        obtain ⟨e, hx⟩ := ih (by omega)
        have hn : (Lib.index t [59] + 1).toNat = (Lib.index t [59]).toNat + 1 := by omega
        rw [hn]
        refine ⟨?_, fun x hm => ?_⟩
        · rw [List.take_succ_cons, List.drop_succ_cons, List.cons_append, ← e]
        · rw [List.take_succ_cons] at hm
          rcases List.mem_cons.1 hm with rfl | hm
          · intro e59
            subst e59
            exact h1 (by simp [List.isPrefixOf])
          · exact hx x hm
theorem cutF_split {t m r : List UInt8} (h : cutF t = some (m, r)) : ∃ body, t = body ++ 59 :: r ∧ ∀ z, cutF (body ++ 59 :: z) = some (m, z) := by
  by_cases hi : 0 ≤ Lib.index t [59]
  · obtain ⟨e, hx⟩ := index_split t hi
    have e1 : Lib.cut t [59] = (t.take (Lib.index t [59]).toNat, t.drop ((Lib.index t [59]).toNat + 1), true) := by unfold Lib.cut; rw [if_pos hi]; rfl
    unfold cutF at h
    rw [e1] at h
    simp only at h
    rw [if_pos trivial] at h
    cases hm : meanF (t.take (Lib.index t [59]).toNat) with
    | none => rw [hm] at h; cases h
    | some m' =>
      rw [hm] at h
      simp only [Option.map_some, Option.some.injEq, Prod.mk.injEq] at h
      obtain ⟨rfl, rfl⟩ := h
      refine ⟨t.take (Lib.index t [59]).toNat, e, fun z => ?_⟩
      unfold cutF
      rw [cut_at _ z hx]
      simp only
      rw [if_pos trivial, hm]
      rfl
  · unfold cutF at h
    have e1 : Lib.cut t [59] = (t, [], false) := by unfold Lib.cut; rw [if_neg hi]
    rw [e1] at h
    cases h
theorem readF_cut (q : UInt8) (hq38 : q ≠ 38) : ∀ (f : Nat) (l acc m : List UInt8) (a : UInt8) (r : List UInt8), readF q f l acc = some (m, a :: r) → ∃ pre, l = pre ++ a :: r ∧ ∀ f', pre.length + 1 < f' → readF q f' (pre ++ [a]) acc = some (m, [a])
  | 0, _, _, _, _, _, h => by cases h
  | f + 1, [], acc, m, a, r, h => by cases h
  | f + 1, x :: t, acc, m, a, r, h => by
    unfold readF at h
    by_cases h38 : x = 38
    · rw [if_pos h38] at h
      cases hc : cutF t with
      | none => rw [hc] at h; cases h
      | some p =>
        obtain ⟨m', r'⟩ := p
        rw [hc] at h
        obtain ⟨body, e, hz⟩ := cutF_split hc
        obtain ⟨pre, e2, h2⟩ := readF_cut q hq38 f r' _ m a r h
        refine ⟨x :: (body ++ 59 :: pre), by rw [e, e2]; simp, fun f' hf => ?_⟩
        obtain ⟨f', rfl⟩ : ∃ g, f' = g + 1 := ⟨f' - 1, by omega⟩
        have e3 : (x :: (body ++ 59 :: pre)) ++ [a] = x :: (body ++ 59 :: (pre ++ [a])) := by simp
        rw [e3]
        unfold readF
        rw [if_pos h38, hz]
        simp only [List.length_cons, List.length_append] at hf
        exact h2 f' (by omega)
    · rw [if_neg h38] at h
      by_cases hxq : x = q
      · rw [if_pos hxq] at h
        rcases t with _ | ⟨b, t'⟩
        · cases h
          refine ⟨[], rfl, fun f' hf => ?_⟩
          obtain ⟨f', rfl⟩ : ∃ g, f' = g + 1 := ⟨f' - 1, by omega⟩
          unfold readF
          simp only [List.nil_append]
          rw [if_neg h38, if_pos hxq]
        · simp only at h
          by_cases hb : b = q
          · rw [if_pos hb] at h
            obtain ⟨pre, e2, h2⟩ := readF_cut q hq38 f t' _ m a r h
            refine ⟨x :: b :: pre, by rw [e2]; rfl, fun f' hf => ?_⟩
            obtain ⟨f', rfl⟩ : ∃ g, f' = g + 1 := ⟨f' - 1, by omega⟩
            have e3 : (x :: b :: pre) ++ [a] = x :: b :: (pre ++ [a]) := rfl
            rw [e3]
            unfold readF
            rw [if_neg h38, if_pos hxq]
            simp only
            rw [if_pos hb]
            simp only [List.length_cons] at hf
            exact h2 f' (by omega)
          · rw [if_neg hb] at h
            cases h
            refine ⟨[], rfl, fun f' hf => ?_⟩
            obtain ⟨f', rfl⟩ : ∃ g, f' = g + 1 := ⟨f' - 1, by omega⟩
            unfold readF
            simp only [List.nil_append]
            rw [if_neg h38, if_pos hxq]
      · rw [if_neg hxq] at h
        obtain ⟨pre, e2, h2⟩ := readF_cut q hq38 f t _ m a r h
        refine ⟨x :: pre, by rw [e2]; rfl, fun f' hf => ?_⟩
        obtain ⟨f', rfl⟩ : ∃ g, f' = g + 1 := ⟨f' - 1, by omega⟩
        have e3 : (x :: pre) ++ [a] = x :: (pre ++ [a]) := rfl
        rw [e3]
        unfold readF
        rw [if_neg h38, if_neg hxq]
        simp only [List.length_cons] at hf
        exact h2 f' (by omega)
theorem quoF_cut (q : UInt8) (hq38 : q ≠ 38) (t y : List UInt8) (h : (quoF q (t ++ y)).2.2 = t.length + 1) : quoF q t = quoF q (t ++ y) := by
  unfold quoF at h ⊢
  cases hr : readF q ((t ++ y).length + 1) (t ++ y) [] with
  | none => rw [hr] at h; simp at h
  | some p =>
    obtain ⟨m, left⟩ := p
    rw [hr] at h
    simp only at h ⊢
    rcases left with _ | ⟨a, r⟩
    · simp at h
    · rw [if_neg (by simp)] at h ⊢
      have hl := readF_left q _ _ _ _ _ hr
      obtain ⟨pre, e, h2⟩ := readF_cut q hq38 _ _ _ _ _ _ hr
      simp only [List.length_append, List.length_cons] at h hl
      have hle := congrArg List.length e
      simp only [List.length_append, List.length_cons] at hle
      have e4 : t ++ y = (pre ++ [a]) ++ r := by rw [e]; simp
      obtain ⟨e5, e6⟩ := List.append_inj e4 (by simp only [List.length_append, List.length_cons, List.length_nil]; omega)
      have h3 := h2 (t.length + 1) (by rw [e5]; simp only [List.length_append, List.length_cons, List.length_nil]; omega)
      rw [← e5] at h3
      rw [h3]
      simp only
      rw [if_neg (by simp)]
      have : t.length = pre.length + 1 := by rw [e5]; simp
      simp only [List.length_append, List.length_cons, List.length_nil, Prod.mk.injEq, true_and]
      omega
theorem enc_utf8 (r : Nat) (h : runeOk r) : (Utf8.encode (r : Int)).data.toList = enc r := by
  rw [encZ r h]
  have hv : Utf8.valid (r : Int) = true := by
    unfold runeOk at h
    simp [Utf8.valid]
    omega
  unfold Utf8.encode
  simp only [hv, if_true, Int.toNat_natCast]
  repeat' split
  all_goals first | rfl | (exfalso; omega)
end Go.Proofs.YtolkfhiominjbaaGreatDoor
namespace Go.Proofs.YtolkfhiominjbaaGreatDoor
open Go.RowKit Go.Lib
set_option maxRecDepth 100000
set_option maxHeartbeats 4000000
/-- What begins with a letter begins with a name. -/
theorem letter_plain (l : List UInt8) (h : letterF l = true) : plainF l ≠ [] := by
  have hne : l ≠ [] := by intro e; rw [e, letter_nil] at h; cases h
  have hl : 0 < l.length := by cases l with | nil => exact absurd rfl hne | cons => simp
  have hsz : (ba' l).size = l.length := size_ba l
  have hlf := h
  unfold letterF decodeGo at h
  rw [if_neg (by omega)] at h
  obtain ⟨r, n, hrn⟩ : ∃ r n, Utf8.decode (ba' l) 0 = (r, n) := ⟨_, _, rfl⟩
  have hn1 := decode_width_pos (ba' l) 0 (by omega)
  have hn2 := decode_le_rest l 0 hl
  have hcut := decode_cut (l.take n) (l.drop n) 0 (by rw [List.length_take]; rw [hrn] at hn1 hn2; simp only at hn1 hn2; omega) (by
    rw [List.take_append_drop, hrn, List.length_take]
    rw [hrn] at hn2
    simp only at hn2 ⊢
    omega)
  rw [List.take_append_drop, hrn] at hcut
  rw [hrn] at h hn1 hn2
  simp only at h hn1 hn2
  have hcl : (l.take n).length = n := by rw [List.length_take]; omega
  have hcne : l.take n ≠ [] := by intro e; rw [e] at hcl; simp at hcl; omega
  unfold nameX at h
  rw [Bool.and_eq_true] at h
  obtain ⟨hv, hnb⟩ := h
  have hvd : validD (l.take n) = true := by
    unfold validX at hv
    rw [Bool.and_eq_true] at hv
    exact hv.1
  have hdl : decodeL (l.take n) = (r, n) := by
    have h1 := decodeL_drop (ba' (l.take n)) 0
    rw [List.drop_zero] at h1
    exact h1.trans hcut
  have hrs : runes (l.take n) = [r] := by
    rw [runes_step _ hcne, hdl]
    simp only
    rw [List.drop_of_length_le (by omega)]
    rfl
  have hok : runeOk r := by
    have := good_ok (l.take n) (valid_cut _ hcne hvd).1
    rw [hdl] at this
    exact this
  have hce : l.take n = enc r := by
    have := flat_runes hvd
    rw [hrs] at this
    simpa using this.symm
  have hname : nameX (⟨#[95]⟩ ++ Utf8.encode (r : Int) : ByteArray).data.toList = true := by
    have e1 : (⟨#[95]⟩ ++ Utf8.encode (r : Int) : ByteArray).data.toList = [95] ++ enc r := by
      rw [← enc_utf8 r hok]
      simp
    rw [e1]
    unfold nameX
    have e2 := validX_append (a := [95]) (enc r) (by kernel_rfl)
    rw [e2, ← hce, hv, Bool.true_and]
    have e3 : validD [95] = true := by kernel_rfl
    rw [runes_append _ e3, hrs]
    have hb : okP 0 r := by
      rw [hrs] at hnb
      unfold nameB at hnb
      simp at hnb
      exact hnb
    have hlet : letterP (r : Int) := by
      rcases hb with h | h
      · exact h
      · exact absurd h.1 (by omega)
    have e4 : runes [95] = [95] := by kernel_rfl
    rw [e4]
    refine nameB_true (by simp) fun k hk => ?_
    simp at hk
    rcases (by omega : k = 0 ∨ k = 1) with rfl | rfl
    · exact .inl (by show letterP ((95 : Nat) : Int); decide)
    · exact .inl hlet
  unfold plainF
  rw [hlf, if_pos rfl]
  have hst := plainGo_step (ba' l) l.length 0
  rw [if_pos (by omega), hrn] at hst
  simp only at hst
  rw [if_pos hname] at hst
  have hm := plainGo_mono l l.length (0 + n) (by omega)
  rw [← hst] at hm
  intro e
  have := congrArg List.length e
  simp only [List.length_take, List.length_nil] at this
  omega
theorem qualF_cut (w y : List UInt8) (hw : w ≠ []) (h : (qualF (w ++ y)).length = w.length) : qualF w = qualF (w ++ y) := by
  have hwl : 0 < w.length := by cases w with | nil => exact absurd rfl hw | cons => simp
  obtain ⟨p, hp⟩ : ∃ p, plainF (w ++ y) = p := ⟨_, rfl⟩
  unfold qualF at h ⊢
  rw [hp] at h ⊢
  by_cases hp0 : p = []
  · rw [if_pos hp0] at h; simp at h; omega
  · rw [if_neg hp0] at h ⊢
    have whole : p.length = w.length → plainF w = p ∧ w.drop p.length = [] := by
      intro e
      obtain ⟨h1, _, _⟩ := plainF_cut w y p hp hp0 (by omega) (fun h => by omega)
      exact ⟨h1, by rw [e, List.drop_length]⟩
    cases hd : (w ++ y).drop p.length with
    | nil =>
      rw [hd] at h
      obtain ⟨h1, h2⟩ := whole h
      rw [h1, if_neg hp0, h2]
    | cons c t =>
      rw [hd] at h
      simp only at h ⊢
      by_cases hc : c = 58 ∧ letterF t = true
      · rw [if_pos hc] at h ⊢
        obtain ⟨rfl, hlt⟩ := hc
        simp only [List.length_append, List.length_cons] at h
        have hne := letter_plain t hlt
        have hpt : 0 < (plainF t).length := by cases hx : plainF t with | nil => exact absurd hx hne | cons => simp
        have hwd : w.drop p.length ++ y = 58 :: t := by rw [← List.drop_append_of_le_length (by omega)]; exact hd
        rcases hx : w.drop p.length with _ | ⟨c3, t3⟩
        · have := congrArg List.length hx
          rw [List.length_drop] at this
          simp at this
          omega
        · rw [hx] at hwd
          simp only [List.cons_append, List.cons.injEq] at hwd
          obtain ⟨rfl, hty⟩ := hwd
          have hlen3 := congrArg List.length hx
          rw [List.length_drop] at hlen3
          simp only [List.length_cons] at hlen3
          have hget : w.getD p.length 0 = 58 := by
            have h1 : (w.drop p.length)[0]? = some 58 := by rw [hx]; rfl
            rw [List.getElem?_drop] at h1
            rw [List.getD_eq_getElem?_getD]
            simp only [Nat.add_zero] at h1
            rw [h1]
            rfl
          obtain ⟨h1, _, _⟩ := plainF_cut w y p hp hp0 (by omega) (fun _ => by rw [hget]; decide)
          subst hty
          obtain ⟨h2, _, h3⟩ := plainF_cut t3 y (plainF (t3 ++ y)) rfl hne (by omega) (fun h => by omega)
          rw [h1, if_neg hp0, hx]
          simp only
          rw [if_pos ⟨trivial, h3⟩, h2]
      · rw [if_neg hc] at h ⊢
        obtain ⟨h1, h2⟩ := whole h
        rw [h1, if_neg hp0, h2]
theorem varF_cut (t y : List UInt8) (h : (varF (t ++ y)).2.2 = t.length + 1) : varF t = varF (t ++ y) := by
  unfold varF at h ⊢
  by_cases hp : plainF (t ++ y) = []
  · rw [if_pos hp] at h; simp at h
  · rw [if_neg hp] at h ⊢
    simp only at h
    obtain ⟨h1, _, _⟩ := plainF_cut t y _ rfl hp (by omega) (fun h => by omega)
    rw [h1, if_neg hp]
/-- A token cut out of its text is that token. -/
theorem tokF_cut (w y : List UInt8) (hne : w ≠ []) (h : (tokF (w ++ y)).2.2 = w.length) : tokF w = tokF (w ++ y) := by
  rcases w with _ | ⟨c, t⟩
  · exact absurd rfl hne
  rw [List.cons_append, tok_cons] at h
  rw [List.cons_append, tok_cons, tok_cons]
  simp only [List.length_cons] at h
  by_cases h36 : c = 36
  · rw [if_pos h36] at h
    rw [if_pos h36, if_pos h36, varF_cut t y h]
  rw [if_neg h36] at h
  rw [if_neg h36, if_neg h36]
  by_cases hq : c = 34 ∨ c = 39
  · rw [if_pos hq] at h
    rw [if_pos hq, if_pos hq, quoF_cut c (by rcases hq with rfl | rfl <;> decide) t y h]
  rw [if_neg hq] at h
  rw [if_neg hq, if_neg hq]
  have e1 : c :: (t ++ y) = (c :: t) ++ y := rfl
  by_cases hn : 0 < digF (c :: (t ++ y)) ∨ (c = 46 ∧ 0 < digF (t ++ y))
  · rw [if_pos hn] at h
    rw [e1] at h
    have hnt := numT_cut (c :: t) y (by rw [h]; rfl) (by simp)
    have hn' : 0 < digF (c :: t) ∨ (c = 46 ∧ 0 < digF t) := by
      by_cases hd : tens.contains c = true
      · exact .inl (by rw [digF_cons, if_pos hd]; omega)
      · rcases hn with hn | hn
        · rw [digF_cons, if_neg hd] at hn; omega
        · obtain ⟨rfl, hn⟩ := hn
          refine .inr ⟨rfl, ?_⟩
          rcases t with _ | ⟨d, t'⟩
          · exfalso
            have h2 : (numT ((46 : UInt8) :: y)).2.2 = 1 := h
            unfold numT at h2
            split at h2
            · simp at h2
            · simp only at h2
              have e2 : numK ((46 : UInt8) :: y) = (4, 0 + 1 + digF y) := by
                unfold numK
                have : digF ((46 : UInt8) :: y) = 0 := by rw [digF_cons]; rfl
                rw [this]
                rfl
              rw [e2] at h2
              simp only at h2
              simp only [List.nil_append] at hn
              omega
          · rw [List.cons_append, digF_cons] at hn
            rw [digF_cons]
            split
            · omega
            · rename_i hx
              rw [if_neg hx] at hn
              omega
    rw [if_pos hn, if_pos hn', e1, hnt]
  · rw [if_neg hn] at h
    have hd0 : tens.contains c ≠ true := by
      intro hd
      exact hn (.inl (by rw [digF_cons, if_pos hd]; omega))
    have hn' : ¬ (0 < digF (c :: t) ∨ (c = 46 ∧ 0 < digF t)) := by
      rintro (hx | ⟨rfl, hx⟩)
      · rw [digF_cons, if_neg hd0] at hx; omega
      · refine hn (.inr ⟨rfl, ?_⟩)
        rcases t with _ | ⟨d, t'⟩
        · rw [digF_nil] at hx; omega
        · rw [digF_cons] at hx
          rw [List.cons_append, digF_cons]
          split
          · omega
          · rename_i hy
            rw [if_neg hy] at hx
            omega
    rw [if_neg hn, if_neg hn', e1]
    rw [e1] at h
    by_cases hs : signF ((c :: t) ++ y) = []
    · rw [if_pos hs] at h
      simp only at h
      have hs' := signF_cut (c :: t) y (by simp) (.inl hs)
      rw [hs', if_pos hs, if_pos hs, qualF_cut (c :: t) y (by simp) (by rw [h]; rfl)]
    · rw [if_neg hs] at h
      simp only at h
      have hs' := signF_cut (c :: t) y (by simp) (.inr (by rw [h]; rfl))
      rw [hs', if_neg hs, if_neg hs]
end Go.Proofs.YtolkfhiominjbaaGreatDoor
namespace Go.Proofs.YtolkfhiominjbaaGreatDoor
open Go.RowKit Go.Lib
set_option maxRecDepth 100000
set_option maxHeartbeats 4000000
theorem vx_cut (l : List UInt8) (hne : l ≠ []) (h : validX l = true) : ∃ r, runeOk r ∧ xmlN r = true ∧ l = enc r ++ l.drop (enc r).length ∧ decodeL l = (r, (enc r).length) ∧ validX (l.drop (enc r).length) = true := by
  unfold validX at h
  obtain ⟨h1, h2⟩ := Bool.and_eq_true_iff.1 h
  obtain ⟨g1, g2⟩ := valid_cut l hne h1
  have he : enc (decodeL l).1 = l.take (decodeL l).2 := encode_decode l hne g1
  have hle := decodeL_le l hne
  have hlen : (enc (decodeL l).1).length = (decodeL l).2 := by rw [he, List.length_take]; omega
  rw [runes_step l hne, List.all_cons, Bool.and_eq_true] at h2
  refine ⟨(decodeL l).1, good_ok l g1, h2.1, ?_, ?_, ?_⟩
  · rw [hlen, he, List.take_append_drop]
  · rw [hlen]
  · rw [hlen]
    unfold validX
    rw [g2, h2.2]
    rfl
theorem enc_pos (r : Nat) (h : runeOk r) : 0 < (enc r).length := by
  rw [encZ r h]
  repeat' split
  all_goals simp
/-- A valid text parts at an ASCII byte. -/
theorem vx_split : ∀ (n : Nat) (u : List UInt8) (c : UInt8) (v : List UInt8), u.length ≤ n → c.toNat < 128 → validX (u ++ c :: v) = true → validX u = true ∧ validX (c :: v) = true
  | n, [], c, v, _, _, h => ⟨validX_nil, h⟩
  | 0, a :: u, c, v, hn, _, _ => by simp at hn
  | n + 1, a :: u, c, v, hn, hc, h => by
    obtain ⟨r, hr, hx, e, _, hv⟩ := vx_cut _ (by simp) h
    have hp := enc_pos r hr
    by_cases hle : (enc r).length ≤ (a :: u).length
    · rw [List.drop_append_of_le_length hle] at e hv
      have e2 : a :: u = enc r ++ (a :: u).drop (enc r).length := List.append_cancel_right (bs := c :: v) (by rw [List.append_assoc]; exact e)
      obtain ⟨h1, h2⟩ := vx_split n ((a :: u).drop (enc r).length) c v (by simp only [List.length_drop, List.length_cons] at hn ⊢; omega) hc hv
      refine ⟨?_, h2⟩
      rw [e2, validX_append _ (validX_enc r hr hx)]
      exact h1
    · exfalso
      have hcm : c ∈ enc r := by
        have h1 : ((a :: u) ++ c :: v)[(a :: u).length]? = some c := by rw [List.getElem?_append_right (Nat.le_refl _)]; simp
        rw [e, List.getElem?_append_left (by omega)] at h1
        exact List.mem_of_getElem? h1
      rcases Nat.lt_or_ge 127 r with hr2 | hr2
      · have := enc_high r hr hr2 c hcm
        omega
      · rw [encZ r hr, if_pos hr2] at hle
        simp at hle
theorem vx_behind (c : UInt8) (v : List UInt8) (hc : c.toNat < 128) (h : validX (c :: v) = true) : validX [c] = true ∧ validX v = true := by
  obtain ⟨r, hr, hx, e, hd, hv⟩ := vx_cut _ (by simp) h
  have hd2 := dec_low (c :: v) hc
  rw [hd] at hd2
  have hl : (enc r).length = 1 := (Prod.mk.inj hd2).2
  rw [hl] at e hv
  have he : enc r = [c] := by
    rcases hx2 : enc r with _ | ⟨b, _ | ⟨b2, t⟩⟩
    · rw [hx2] at hl; simp at hl
    · rw [hx2] at e
      simp at e
      rw [e]
    · rw [hx2] at hl; simp at hl
  exact ⟨by rw [← he]; exact validX_enc r hr hx, hv⟩
theorem vx_ascii : ∀ (u v : List UInt8), (∀ x ∈ u, x.toNat < 128) → validX (u ++ v) = true → validX u = true ∧ validX v = true
  | [], v, _, h => ⟨validX_nil, h⟩
  | a :: u, v, hu, h => by
    obtain ⟨h1, h2⟩ := vx_behind a (u ++ v) (hu a (.head _)) h
    obtain ⟨h3, h4⟩ := vx_ascii u v (fun x hx => hu x (.tail _ hx)) h2
    refine ⟨?_, h4⟩
    show validX ([a] ++ u) = true
    rw [validX_append _ h1]
    exact h3
theorem vx_app {a b : List UInt8} (ha : validX a = true) (hb : validX b = true) : validX (a ++ b) = true := by
  rw [validX_append _ ha]; exact hb
/-- Along a plain name a valid text parts. -/
theorem vx_plain (l : List UInt8) : ∀ (f p : Nat), p ≤ l.length → l.length < p + f → validX (l.take p) = true → validX (l.drop p) = true → validX (l.take (plainGo (ba' l) f p)) = true ∧ validX (l.drop (plainGo (ba' l) f p)) = true
  | 0, p, _, h, _, _ => by omega
  | f + 1, p, hp, hf, h1, h2 => by
    have hsz : (ba' l).size = l.length := size_ba l
    rw [plainGo_step]
    by_cases hpl : p < l.length
    · rw [if_pos (by rw [hsz]; exact hpl)]
      split
      · have hne : l.drop p ≠ [] := by
          intro e
          have := congrArg List.length e
          simp at this
          omega
        obtain ⟨r, hr, hx, e, hd, hv⟩ := vx_cut _ hne h2
        have hdd : Utf8.decode (ba' l) p = (r, (enc r).length) := by
          rw [← decodeL_drop (ba' l) p]
          exact hd
        have hrest := decode_le_rest l p hpl
        have hpos := enc_pos r hr
        rw [hdd] at hrest ⊢
        simp only at hrest ⊢
        refine vx_plain l f _ hrest (by omega) ?_ ?_
        · rw [List.take_add, e, List.take_left]
          exact vx_app h1 (validX_enc r hr hx)
        · rw [← List.drop_drop]
          exact hv
      · exact ⟨h1, h2⟩
    · rw [if_neg (by rw [hsz]; exact hpl), hsz]
      obtain rfl : p = l.length := by omega
      exact ⟨h1, h2⟩
theorem vx_plainF (l : List UInt8) (h : validX l = true) : validX (plainF l) = true ∧ validX (l.drop (plainF l).length) = true := by
  unfold plainF
  split
  · have hg := plainGo_le l (l.length + 1) 0 (Nat.zero_le _)
    obtain ⟨h1, h2⟩ := vx_plain l (l.length + 1) 0 (Nat.zero_le _) (by omega) validX_nil h
    rw [List.length_take, Nat.min_eq_left hg]
    exact ⟨h1, h2⟩
  · exact ⟨validX_nil, h⟩
theorem plainF_take (l : List UInt8) : plainF l = l.take (plainF l).length := by
  have hg := plainGo_le l (l.length + 1) 0 (Nat.zero_le _)
  unfold plainF
  split
  · rw [List.length_take, Nat.min_eq_left hg]
  · rfl
end Go.Proofs.YtolkfhiominjbaaGreatDoor
namespace Go.Proofs.YtolkfhiominjbaaGreatDoor
open Go.RowKit Go.Lib
set_option maxRecDepth 100000
set_option maxHeartbeats 4000000
theorem readF_head (q : UInt8) : ∀ (f : Nat) (l acc m : List UInt8) (a : UInt8) (r : List UInt8), readF q f l acc = some (m, a :: r) → a = q
  | 0, _, _, _, _, _, h => by cases h
  | f + 1, [], acc, m, a, r, h => by cases h
  | f + 1, x :: t, acc, m, a, r, h => by
    unfold readF at h
    split at h
    · cases hc : cutF t with
      | none => rw [hc] at h; cases h
      | some p =>
        obtain ⟨m', r'⟩ := p
        rw [hc] at h
        exact readF_head q f r' _ m a r h
    · split at h
      · rename_i hxq
        rcases t with _ | ⟨b, t'⟩
        · cases h; exact hxq
        · simp only at h
          split at h
          · exact readF_head q f t' _ m a r h
          · cases h; exact hxq
      · exact readF_head q f t _ m a r h
theorem tens_low : ∀ x ∈ tens, x.toNat < 128 := by decide
theorem ones_low : ∀ x ∈ onesL, x.toNat < 128 := by decide
theorem dig_ascii : ∀ (l : List UInt8) (x : UInt8), x ∈ l.take (digF l) → x.toNat < 128
  | [], x, h => by simp at h
  | c :: t, x, h => by
    rw [digF_cons] at h
    split at h
    · rename_i hc
      rw [List.take_succ_cons] at h
      rcases List.mem_cons.1 h with rfl | h
      · have hm : x ∈ tens := by simpa using hc
        exact tens_low x hm
      · exact dig_ascii t x h
    · simp at h
theorem num_ascii (l : List UInt8) (x : UInt8) (h : x ∈ l.take (numK l).2) : x.toNat < 128 := by
  unfold numK numH at h
  cases hd : l.drop (digF l) with
  | nil => rw [hd] at h; exact dig_ascii l x h
  | cons c t =>
    rw [hd] at h
    simp only at h
    split at h
    · rename_i hc
      simp only at h
      rw [Nat.add_assoc, List.take_add, hd, Nat.add_comm 1, List.take_succ_cons] at h
      rcases List.mem_append.1 h with h | h
      · exact dig_ascii l x h
      · rcases List.mem_cons.1 h with rfl | h
        · rw [hc]; decide
        · exact dig_ascii t x h
    · exact dig_ascii l x h
theorem one_ascii (c x : UInt8) (h : x ∈ oneF c) : x.toNat < 128 := by
  unfold oneF at h
  split at h
  · rename_i hc
    rw [List.mem_singleton] at h
    subst h
    have hm : x ∈ onesL := by simpa using hc
    exact ones_low x hm
  · simp at h
theorem sign_ascii (l : List UInt8) (x : UInt8) (h : x ∈ signF l) : x.toNat < 128 := by
  rcases l with _ | ⟨c, _ | ⟨d, t⟩⟩
  · simp [signF] at h
  · exact one_ascii c x h
  · unfold signF at h
    simp only at h
    split at h
    · rename_i hc
      have hm : [c, d] ∈ twosL := by simpa using hc
      unfold twosL at hm
      simp only [List.mem_cons, List.cons.injEq, and_true, List.not_mem_nil, or_false] at hm h
      rcases hm with ⟨rfl, rfl⟩ | ⟨rfl, rfl⟩ | ⟨rfl, rfl⟩ | ⟨rfl, rfl⟩ | ⟨rfl, rfl⟩ | ⟨rfl, rfl⟩ | ⟨rfl, rfl⟩ | ⟨rfl, rfl⟩ | ⟨rfl, rfl⟩ <;> rcases h with rfl | rfl <;> decide
    · exact one_ascii c x h
/-- A token of a valid text parts it. -/
theorem tok_valid (l : List UInt8) (hv : validX l = true) (h0 : (tokF l).2.2 ≠ 0) : validX (l.take (tokF l).2.2) = true ∧ validX (l.drop (tokF l).2.2) = true := by
  rcases l with _ | ⟨c, t⟩
  · exact absurd rfl h0
  rw [tok_cons] at h0 ⊢
  by_cases h36 : c = 36
  · rw [if_pos h36] at h0 ⊢
    unfold varF at h0 ⊢
    by_cases hp : plainF t = []
    · rw [if_pos hp] at h0; exact absurd rfl h0
    · rw [if_neg hp]
      simp only
      obtain ⟨v1, v2⟩ := vx_behind c t (by rw [h36]; decide) hv
      obtain ⟨v3, v4⟩ := vx_plainF t v2
      rw [List.take_succ_cons, List.drop_succ_cons, ← plainF_take]
      exact ⟨vx_app v1 v3, v4⟩
  rw [if_neg h36] at h0 ⊢
  by_cases hq : c = 34 ∨ c = 39
  · rw [if_pos hq] at h0 ⊢
    unfold quoF at h0 ⊢
    cases hr : readF c (t.length + 1) t [] with
    | none => rw [hr] at h0; exact absurd rfl h0
    | some p =>
      obtain ⟨m, left⟩ := p
      rw [hr] at h0
      simp only at h0 ⊢
      rcases left with _ | ⟨a, r⟩
      · exact absurd rfl h0
      · rw [if_neg (by simp)]
        simp only
        have ha := readF_head c _ _ _ _ _ _ hr
        subst ha
        obtain ⟨pre, e, _⟩ := readF_cut a (by rcases hq with rfl | rfl <;> decide) _ _ _ _ _ _ hr
        subst e
        have ha : a.toNat < 128 := by rcases hq with rfl | rfl <;> decide
        have hlen : (pre ++ a :: r).length - (a :: r).length + 2 = pre.length + 2 := by simp only [List.length_append, List.length_cons]; omega
        rw [hlen]
        have e1 : (a :: (pre ++ a :: r)).take (pre.length + 2) = (a :: pre) ++ [a] := by
          rw [List.take_succ_cons, List.take_add, List.take_left, List.drop_left]
          rfl
        have e2 : (a :: (pre ++ a :: r)).drop (pre.length + 2) = r := by
          rw [List.drop_succ_cons, ← List.drop_drop, List.drop_left]
          rfl
        rw [e1, e2]
        obtain ⟨v1, v2⟩ := vx_split _ (a :: pre) a r (Nat.le_refl _) ha hv
        obtain ⟨v3, v4⟩ := vx_behind a r ha v2
        exact ⟨vx_app v1 v3, v4⟩
  rw [if_neg hq] at h0 ⊢
  by_cases hn : 0 < digF (c :: t) ∨ (c = 46 ∧ 0 < digF t)
  · rw [if_pos hn] at h0 ⊢
    unfold numT at h0 ⊢
    split at h0
    · exact absurd rfl h0
    · rename_i hl
      rw [if_neg hl]
      simp only
      refine vx_ascii _ _ (fun x hx => num_ascii _ x hx) ?_
      rw [List.take_append_drop]
      exact hv
  · rw [if_neg hn] at h0 ⊢
    by_cases hs : signF (c :: t) = []
    · rw [if_pos hs] at h0 ⊢
      simp only at h0 ⊢
      obtain ⟨v1, v2⟩ := vx_plainF (c :: t) hv
      unfold qualF at h0 ⊢
      by_cases hp : plainF (c :: t) = []
      · rw [if_pos hp] at h0; exact absurd rfl h0
      · rw [if_neg hp]
        have hpt := plainF_take (c :: t)
        cases hd : (c :: t).drop (plainF (c :: t)).length with
        | nil =>
          simp only
          rw [← hpt]
          exact ⟨v1, v2⟩
        | cons e r =>
          simp only
          split
          · rename_i hc
            obtain ⟨rfl, _⟩ := hc
            rw [hd] at v2
            obtain ⟨v3, v4⟩ := vx_behind 58 r (by decide) v2
            obtain ⟨v5, v6⟩ := vx_plainF r v4
            have hlen : (plainF (c :: t) ++ 58 :: plainF r).length = (plainF (c :: t)).length + ((plainF r).length + 1) := by simp
            rw [hlen]
            have e1 : (c :: t).take ((plainF (c :: t)).length + ((plainF r).length + 1)) = plainF (c :: t) ++ ([58] ++ plainF r) := by
              rw [List.take_add, ← hpt, hd, List.take_succ_cons, ← plainF_take]
              rfl
            have e2 : (c :: t).drop ((plainF (c :: t)).length + ((plainF r).length + 1)) = r.drop (plainF r).length := by
              rw [← List.drop_drop, hd, List.drop_succ_cons]
            rw [e1, e2]
            exact ⟨vx_app v1 (vx_app v3 v5), v6⟩
          · rw [← hpt]
            exact ⟨v1, v2⟩
    · rw [if_neg hs] at h0 ⊢
      simp only
      refine vx_ascii _ _ (fun x hx => ?_) (by rw [List.take_append_drop]; exact hv)
      rw [signF_take] at hx
      exact sign_ascii _ x hx
end Go.Proofs.YtolkfhiominjbaaGreatDoor
namespace Go.Proofs.YtolkfhiominjbaaGreatDoor
open Go.RowKit Go.Lib
set_option maxRecDepth 100000
set_option maxHeartbeats 4000000
theorem spc_low : ∀ x ∈ spc, x.toNat < 128 := by decide
theorem trimW_cons (c : UInt8) (t : List UInt8) : trimW (c :: t) = if spc.contains c = true then trimW t else c :: t := by
  unfold trimW Lib.trimLeftS
  rw [List.dropWhile_cons]
theorem trimW_idem : ∀ z : List UInt8, trimW (trimW z) = trimW z
  | [] => rfl
  | c :: t => by
    rw [trimW_cons]
    split
    · exact trimW_idem t
    · rename_i h
      rw [trimW_cons, if_neg h]
theorem trimW_drop : ∀ z : List UInt8, ∃ k, trimW z = z.drop k
  | [] => ⟨0, rfl⟩
  | c :: t => by
    rw [trimW_cons]
    split
    · obtain ⟨k, h⟩ := trimW_drop t
      exact ⟨k + 1, h⟩
    · exact ⟨0, rfl⟩
theorem trimW_valid : ∀ z : List UInt8, validX z = true → validX (trimW z) = true
  | [], h => h
  | c :: t, h => by
    rw [trimW_cons]
    split
    · rename_i hc
      exact trimW_valid t (vx_behind c t (spc_low c (by simpa using hc)) h).2
    · exact h
theorem rem_end : ∀ (n : Nat) (l : List UInt8) (op k r : Nat), l.length ≤ n → remGo l op k = r → r ≠ 0 → k + 2 ≤ r ∧ ∃ u, l = u ++ 41 :: l.drop (r - k)
  | n, [], op, k, r, _, h, h0 => absurd h.symm h0
  | n, [a], op, k, r, _, h, h0 => absurd h.symm h0
  | 0, a :: b :: t, _, _, _, hn, _, _ => by simp at hn
  | n + 1, a :: b :: t, op, k, r, hn, h, h0 => by
    rw [remGo_cons] at h
    simp only [List.length_cons] at hn
    have two : ∀ op', remGo t op' (k + 2) = r → k + 2 ≤ r ∧ ∃ u, a :: b :: t = u ++ 41 :: (a :: b :: t).drop (r - k) := by
      intro op' h
      obtain ⟨h1, u, e⟩ := rem_end n t op' (k + 2) r (by omega) h h0
      refine ⟨by omega, a :: b :: u, ?_⟩
      obtain ⟨q, hq⟩ : ∃ q, r - k = q + 2 := ⟨r - k - 2, by omega⟩
      rw [hq]
      rw [show r - (k + 2) = q by omega] at e
      show a :: b :: t = a :: b :: (u ++ 41 :: t.drop q)
      rw [← e]
    split at h
    · exact two _ h
    · split at h
      · rename_i hc
        split at h
        · subst h
          refine ⟨Nat.le_refl _, [58], ?_⟩
          rw [show k + 2 - k = 2 by omega, hc.1, hc.2]
          rfl
        · exact two _ h
      · obtain ⟨h1, u, e⟩ := rem_end n (b :: t) op (k + 1) r (by simp only [List.length_cons]; omega) h h0
        refine ⟨by omega, a :: u, ?_⟩
        obtain ⟨q, hq⟩ : ∃ q, r - k = q + 1 := ⟨r - k - 1, by omega⟩
        rw [hq]
        rw [show r - (k + 1) = q by omega] at e
        show a :: b :: t = a :: (u ++ 41 :: (b :: t).drop q)
        rw [← e]
theorem pass_is : ∀ (f : Nat) (l m : List UInt8), trimW l = l → validX l = true → passGo f l = some m → (∃ k, m = l.drop k) ∧ trimW m = m ∧ Lib.hasPrefix m [40, 58] = false ∧ validX m = true
  | 0, _, _, _, _, h => by cases h
  | f + 1, l, m, ht, hv, h => by
    unfold passGo at h
    split at h
    · split at h
      · cases h
      · rename_i h0
        obtain ⟨_, u, e⟩ := rem_end l.length l 0 0 _ (Nat.le_refl _) rfl h0
        rw [Nat.sub_zero] at e
        have hv2 : validX (l.drop (remGo l 0 0)) = true := by
          rw [e] at hv
          exact (vx_behind 41 _ (by decide) (vx_split _ u 41 _ (Nat.le_refl _) (by decide) hv).2).2
        obtain ⟨⟨k, hk⟩, h2, h3, h4⟩ := pass_is f _ m (trimW_idem _) (trimW_valid _ hv2) h
        obtain ⟨k2, hk2⟩ := trimW_drop (l.drop (remGo l 0 0))
        exact ⟨⟨remGo l 0 0 + (k2 + k), by rw [hk, hk2, List.drop_drop, List.drop_drop]⟩, h2, h3, h4⟩
    · rename_i hp
      cases h
      exact ⟨⟨0, rfl⟩, ht, by simpa using hp, hv⟩
def wordOf (s : List UInt8) (t : Tk) : List UInt8 := (s.drop t.a).take (t.b - t.a)
theorem next_is {s : List UInt8} {p : Nat} {t : Tk} (hp : p ≤ s.length) (hv : validX (s.drop p) = true) (h : nextF s p = some t) (hk : t.k ≠ 0) :
    p ≤ t.a ∧ t.a < t.b ∧ t.b ≤ s.length ∧ (wordOf s t).length = t.b - t.a ∧ WordIs (wordOf s t) t.k t.x ∧ validX (wordOf s t) = true ∧ validX (s.drop t.b) = true := by
  obtain ⟨b1, b2, b3, b4⟩ := nextF_b hp h
  have b5 := b4 hk
  unfold nextF at h
  cases hpf : passF (s.drop p) with
  | none => rw [hpf] at h; cases h
  | some left =>
    rw [hpf] at h
    simp only at h
    split at h
    · cases h; exact absurd rfl hk
    · rename_i hne
      split at h
      · cases h
      · rename_i hz
        unfold passF at hpf
        obtain ⟨⟨k, hkd⟩, h2, h3, h4⟩ := pass_is _ _ _ (trimW_idem _) (trimW_valid _ hv) hpf
        obtain ⟨k2, hk2⟩ := trimW_drop (s.drop p)
        rw [hk2, List.drop_drop, List.drop_drop] at hkd
        have hll : 0 < left.length := by cases left with | nil => exact absurd rfl hne | cons => simp
        have hle := congrArg List.length hkd
        rw [List.length_drop] at hle
        cases h
        simp only at *
        have hda : s.drop (s.length - left.length) = left := by
          rw [show s.length - left.length = p + (k2 + k) by omega]
          exact hkd.symm
        have hsz := tokF_le left
        obtain ⟨n, hn⟩ : ∃ n, (tokF left).2.2 = n := ⟨_, rfl⟩
        rw [hn] at hz hsz b2 b3 b4 b5
        have hw : wordOf s ⟨(tokF left).1, (tokF left).2.1, s.length - left.length, s.length - left.length + (tokF left).2.2⟩ = left.take n := by
          unfold wordOf
          simp only
          rw [hda, hn, Nat.add_sub_cancel_left]
        rw [hw, hn]
        have hwl : (left.take n).length = n := by rw [List.length_take]; omega
        have hwne : left.take n ≠ [] := by intro e; rw [e] at hwl; simp at hwl; omega
        obtain ⟨v1, v2⟩ := tok_valid left h4 (by rw [hn]; exact hz)
        rw [hn] at v1 v2
        have hcut := tokF_cut (left.take n) (left.drop n) hwne (by rw [List.take_append_drop, hn, hwl])
        rw [List.take_append_drop] at hcut
        obtain ⟨c, r, hl, hc⟩ := first_no hne h2
        refine ⟨by omega, by omega, by omega, by rw [hwl]; omega, ⟨hwne, ?_, ?_, ?_, hk⟩, v1, ?_⟩
        · obtain ⟨n', rfl⟩ : ∃ n', n = n' + 1 := ⟨n - 1, by omega⟩
          rw [hl, List.take_succ_cons]
          exact trimW_no c _ hc
        · cases hx : Lib.hasPrefix (left.take n) [40, 58] with
          | false => rfl
          | true =>
            obtain ⟨t', ht'⟩ := pre2 hx
            have e : left = 40 :: 58 :: (t' ++ left.drop n) := by
              conv => lhs; rw [← List.take_append_drop n left, ht']
              rfl
            rw [e] at h3
            simp [Lib.hasPrefix, List.isPrefixOf] at h3
        · rw [hcut, hwl, ← hn]
        · rw [← List.drop_drop, hda]
          exact v2
/-- Tokens of a text from some place on, one behind the other. -/
def Chain (s : List UInt8) : Nat → List Tk → Prop
  | _, [] => True
  | p, t :: M => t.k ≠ 0 ∧ p ≤ t.a ∧ t.a < t.b ∧ t.b ≤ s.length ∧ (wordOf s t).length = t.b - t.a ∧ WordIs (wordOf s t) t.k t.x ∧ validX (wordOf s t) = true ∧ Chain s t.b M
theorem all_is (s : List UInt8) : ∀ (f p : Nat) (acc L : List Tk), p ≤ s.length → validX (s.drop p) = true → allGo f s (nextF s p) acc = some L → ∃ M, L = acc ++ M ∧ Chain s p M
  | 0, p, acc, L, _, _, h => by cases h
  | f + 1, p, acc, L, hp, hv, h => by
    cases hn : nextF s p with
    | none => rw [hn] at h; cases h
    | some t =>
      rw [hn] at h
      unfold allGo at h
      by_cases hk : t.k = 0
      · rw [if_pos hk] at h
        cases h
        exact ⟨[], by simp, trivial⟩
      · rw [if_neg hk] at h
        obtain ⟨h1, h2, h3, h4, h5, h6, h7⟩ := next_is hp hv hn hk
        obtain ⟨M, e, hM⟩ := all_is s f t.b _ L h3 h7 h
        exact ⟨t :: M, by rw [e]; simp, hk, h1, h2, h3, h4, h5, h6, hM⟩
/-- What All answers of a token alone. -/
theorem word_all {w : List UInt8} {k : Nat} {x : List UInt8} (h : WordIs w k x) (hv : validX w = true) (hl : w.length ≤ 65536) : allR w = some [⟨k, x, 0, w.length⟩] ∧ allE w = 0 := by
  obtain ⟨hne, ht, hp, htok, hk⟩ := h
  have hpass : passF w = some w := by
    unfold passF
    rw [ht]
    unfold passGo
    rw [if_neg (by rw [hp]; decide)]
  have hwl : w.length ≠ 0 := by cases w with | nil => exact absurd rfl hne | cons => simp
  have h1 : nextF w 0 = some ⟨k, x, 0, w.length⟩ := by
    unfold nextF
    rw [List.drop_zero, hpass]
    simp only
    rw [if_neg hne, htok]
    simp only
    rw [if_neg hwl]
    simp
  have h2 : nextF w w.length = some ⟨0, [], w.length, w.length⟩ := next_last w [] w.length (List.drop_length) (.inl rfl)
  have hF : allF w = some [⟨k, x, 0, w.length⟩] := by
    unfold allF
    rw [h1]
    unfold allGo
    simp only
    rw [if_neg hk, h2]
    unfold allGo
    rfl
  have hok : okT w 0 = true := by
    unfold okT
    simp only [Bool.and_eq_true, decide_eq_true_eq]
    exact ⟨⟨⟨hl, by omega⟩, by omega⟩, hv⟩
  unfold allR allE
  rw [if_pos hok, if_pos hok, hF]
  exact ⟨rfl, rfl⟩
end Go.Proofs.YtolkfhiominjbaaGreatDoor
