/- Words apart: the tokens of words with blanks between are the words. No condition beyond what the theorems state. -/
import Derived.Test.YtolkfhiominjbaaGreatDoorLexer
import Derived.Lib.TrimUEq
namespace Go.Proofs.YtolkfhiominjbaaGreatDoor
open Go.RowKit Go.Lib
set_option maxRecDepth 100000
set_option maxHeartbeats 4000000
theorem decodeN_app (n m b0 b1 b2 b3 c1 c2 c3 : Nat) (hn : 1 ≤ n) (hm : n < m) (h1 : 1 < n → c1 = b1) (h2 : 2 < n → c2 = b2) (h3 : 3 < n → c3 = b3)
    (k1 : n = 1 → c1 = 32) (k2 : n = 2 → c2 = 32) (k3 : n = 3 → c3 = 32) : decodeN m b0 c1 c2 c3 = decodeN n b0 b1 b2 b3 := by
  rcases n with _ | _ | _ | _ | n
  · omega
  · rw [k1 rfl]; simp [decodeN]
  · rw [k2 rfl, h1 (by omega)]; simp [decodeN, hm]; simp [show 1 < m by omega]
  · rw [k3 rfl, h1 (by omega), h2 (by omega)]; simp [decodeN, show 1 < m by omega, show 2 < m by omega]
  · rw [h1 (by omega), h2 (by omega), h3 (by omega)]; simp [decodeN, show 1 < m by omega, show 2 < m by omega, show 3 < m by omega]
theorem decode_ba (l : List UInt8) (p : Nat) : Utf8.decode (ba' l) p = decodeN (l.length - p) (l.getD p 0).toNat (l.getD (p + 1) 0).toNat (l.getD (p + 2) 0).toNat (l.getD (p + 3) 0).toNat := decode_N (ba' l) p
theorem getD_left (w r : List UInt8) (i : Nat) (h : i < w.length) : (w ++ 32 :: r).getD i 0 = w.getD i 0 := by
  rw [List.getD_eq_getElem?_getD, List.getD_eq_getElem?_getD, List.getElem?_append_left h]
theorem getD_mid (w r : List UInt8) : (w ++ 32 :: r).getD w.length 0 = 32 := by
  rw [List.getD_eq_getElem?_getD, List.getElem?_append_right (Nat.le_refl _)]
  simp
theorem decode_app (w r : List UInt8) (p : Nat) (h : p < w.length) : Utf8.decode (ba' (w ++ 32 :: r)) p = Utf8.decode (ba' w) p := by
  rw [decode_ba, decode_ba, getD_left w r p h]
  refine decodeN_app _ _ _ _ _ _ _ _ _ (by omega) (by simp; omega) (fun h1 => ?_) (fun h1 => ?_) (fun h1 => ?_) (fun h1 => ?_) (fun h1 => ?_) (fun h1 => ?_)
  · rw [getD_left w r _ (by omega)]
  · rw [getD_left w r _ (by omega)]
  · rw [getD_left w r _ (by omega)]
  · rw [show p + 1 = w.length by omega, getD_mid]; rfl
  · rw [show p + 2 = w.length by omega, getD_mid]; rfl
  · rw [show p + 3 = w.length by omega, getD_mid]; rfl
theorem decode_mid (w r : List UInt8) : Utf8.decode (ba' (w ++ 32 :: r)) w.length = (32, 1) := by
  rw [decode_ba, getD_mid]
  unfold decodeN
  rw [if_pos (by decide)]
  rfl
theorem decode_le_rest (l : List UInt8) (p : Nat) (h : p < l.length) : p + (Utf8.decode (ba' l) p).2 ≤ l.length := by
  rw [decode_ba]
  have := decodeN_le_n (l.length - p) (l.getD p 0).toNat (l.getD (p + 1) 0).toNat (l.getD (p + 2) 0).toNat (l.getD (p + 3) 0).toNat (by omega)
  omega
theorem letter_nil : letterF [] = false := by kernel_rfl
theorem letter_blank (r : List UInt8) : letterF (32 :: r) = false := by
  have h := decode_mid [] r
  unfold letterF decodeGo
  rw [if_neg (by rw [size_ba]; simp)]
  change Utf8.decode (ba' (32 :: r)) 0 = (32, 1) at h
  rw [h]
  exact n_sp
theorem letterF_app (w r : List UInt8) : letterF (w ++ 32 :: r) = letterF w := by
  rcases w with _ | ⟨c, t⟩
  · rw [letter_nil]; exact letter_blank r
  · unfold letterF decodeGo
    rw [if_neg (by rw [size_ba]; simp), if_neg (by rw [size_ba]; simp), decode_app (c :: t) r 0 (by simp)]
    have h := decode_le_rest (c :: t) 0 (by simp)
    rw [List.take_append_of_le_length (by omega)]
theorem plainGo_le (w : List UInt8) : ∀ (f p : Nat), p ≤ w.length → plainGo (ba' w) f p ≤ w.length
  | 0, p, h => h
  | f + 1, p, h => by
    unfold plainGo
    split
    · rename_i h1
      rw [size_ba] at h1
      split
      · exact plainGo_le w f _ (decode_le_rest w p h1)
      · exact h
    · rw [size_ba]; exact Nat.le_refl _
theorem blank_name : nameX ((⟨#[95]⟩ ++ Utf8.encode ((32 : Nat) : Int) : ByteArray).data.toList) = false := by kernel_rfl
theorem plainGo_step (S : ByteArray) (f p : Nat) : plainGo S (f + 1) p = if p < S.size then (if nameX (⟨#[95]⟩ ++ Utf8.encode ((Utf8.decode S p).1 : Int) : ByteArray).data.toList = true then plainGo S f (p + (Utf8.decode S p).2) else p) else S.size := rfl
theorem plainGo_app (w r : List UInt8) : ∀ (f f' p : Nat), p ≤ w.length → w.length < p + f → w.length < p + f' → plainGo (ba' (w ++ 32 :: r)) f' p = plainGo (ba' w) f p
  | 0, _, p, h, h1, _ => by omega
  | _, 0, p, h, _, h2 => by omega
  | f + 1, f' + 1, p, h, h1, h2 => by
    have e1 : (ba' w).size = w.length := size_ba w
    have e2 : (ba' (w ++ 32 :: r)).size = w.length + (r.length + 1) := by rw [size_ba]; simp
    by_cases hp : p < w.length
    · have hw := decode_width_pos (ba' w) p (by rw [e1]; exact hp)
      have hr := decode_le_rest w p hp
      have L := plainGo_step (ba' (w ++ 32 :: r)) f' p
      have R := plainGo_step (ba' w) f p
      rw [if_pos (by rw [e2]; omega), decode_app w r p hp] at L
      rw [if_pos (by rw [e1]; exact hp)] at R
      rw [L, R]
      split
      · exact plainGo_app w r f f' _ hr (by omega) (by omega)
      · rfl
    · obtain rfl : p = w.length := by omega
      have L := plainGo_step (ba' (w ++ 32 :: r)) f' w.length
      have R := plainGo_step (ba' w) f w.length
      rw [if_pos (by rw [e2]; omega), decode_mid] at L
      rw [if_neg (by rw [e1]; omega), e1] at R
      rw [L, R]
      simp only
      rw [if_neg (by rw [blank_name]; decide)]
theorem plainF_app (w r : List UInt8) : plainF (w ++ 32 :: r) = plainF w := by
  unfold plainF
  rw [letterF_app]
  split
  · rw [plainGo_app w r (w.length + 1) _ 0 (Nat.zero_le _) (by omega) (by simp; omega)]
    exact List.take_append_of_le_length (plainGo_le w _ 0 (Nat.zero_le _))
  · rfl
theorem digF_nil : digF [] = 0 := rfl
theorem digF_cons (c : UInt8) (t : List UInt8) : digF (c :: t) = if tens.contains c = true then digF t + 1 else 0 := by
  unfold digF Lib.trimLeftS
  rw [List.dropWhile_cons]
  split
  · rename_i h
    have := (List.dropWhile_sublist (tens.contains ·) (l := t)).length_le
    simp only [List.length_cons]
    omega
  · simp
theorem digF_app (r : List UInt8) : ∀ w : List UInt8, digF (w ++ 32 :: r) = digF w
  | [] => by rw [List.nil_append, digF_cons]; rfl
  | c :: t => by rw [List.cons_append, digF_cons, digF_cons, digF_app r t]
theorem two_blank (c : UInt8) : twosL.contains [c, 32] = false := by
  unfold twosL
  simp
theorem signF_app (w r : List UInt8) (h : w ≠ []) : signF (w ++ 32 :: r) = signF w := by
  rcases w with _ | ⟨c, _ | ⟨d, t⟩⟩
  · exact absurd rfl h
  · show signF (c :: 32 :: r) = signF [c]
    unfold signF
    simp only
    rw [if_neg (by rw [two_blank]; decide)]
  · rfl
theorem numK_le (l : List UInt8) : (numK l).2 ≤ l.length := by
  unfold numK numH
  have h1 := digF_le l
  cases hd : l.drop (digF l) with
  | nil => exact h1
  | cons e r =>
    simp only
    have h2 := congrArg List.length hd
    rw [List.length_drop] at h2
    simp only [List.length_cons] at h2
    split
    · have h3 := digF_le r
      simp only
      omega
    · simp only
      omega
theorem numK_app (w r : List UInt8) : numK (w ++ 32 :: r) = numK w := by
  unfold numK
  rw [digF_app, List.drop_append_of_le_length (digF_le w)]
  cases w.drop (digF w) with
  | nil => rfl
  | cons c t =>
    unfold numH
    simp only [List.cons_append]
    rw [digF_app]
theorem numT_app (w r : List UInt8) : numT (w ++ 32 :: r) = numT w := by
  unfold numT
  rw [numK_app, List.drop_append_of_le_length (numK_le w), letterF_app, List.take_append_of_le_length (numK_le w)]
theorem qualF_app (w r : List UInt8) : qualF (w ++ 32 :: r) = qualF w := by
  unfold qualF
  rw [plainF_app, List.drop_append_of_le_length (plainF_len w)]
  split
  · rfl
  · cases w.drop (plainF w).length with
    | nil => rfl
    | cons c t =>
      simp only [List.cons_append]
      rw [letterF_app, plainF_app]
theorem index_app (r : List UInt8) : ∀ t : List UInt8, 0 ≤ Lib.index t [59] → Lib.index (t ++ 32 :: r) [59] = Lib.index t [59]
  | [], h => by simp [Lib.index] at h
  | b :: t, h => by
    have e : ([59] : List UInt8).isPrefixOf (b :: (t ++ 32 :: r)) = ([59] : List UInt8).isPrefixOf (b :: t) := rfl
    rw [List.cons_append, Lib.index, Lib.index, e]
    rw [Lib.index] at h
    by_cases h1 : ([59] : List UInt8).isPrefixOf (b :: t) = true
    · rw [if_pos h1, if_pos h1]
    · rw [if_neg h1] at h ⊢
      rw [if_neg h1]
      by_cases h2 : (Lib.index t [59] == -1) = true
      · rw [if_pos h2] at h; omega
      · rw [if_neg h2] at h
        have h3 : Lib.index t [59] ≠ -1 := by simpa using h2
        rw [index_app r t (by omega)]
theorem cutF_app {t m rest : List UInt8} (r : List UInt8) (h : cutF t = some (m, rest)) : cutF (t ++ 32 :: r) = some (m, rest ++ 32 :: r) := by
  unfold cutF at h ⊢
  by_cases hi : 0 ≤ Lib.index t [59]
  · have hl := index_lt t hi
    have e1 : Lib.cut t [59] = (t.take (Lib.index t [59]).toNat, t.drop ((Lib.index t [59]).toNat + 1), true) := by unfold Lib.cut; rw [if_pos hi]; rfl
    have e2 : Lib.cut (t ++ 32 :: r) [59] = (t.take (Lib.index t [59]).toNat, t.drop ((Lib.index t [59]).toNat + 1) ++ 32 :: r, true) := by
      unfold Lib.cut
      rw [index_app r t hi, if_pos hi]
      simp only [List.length_cons, List.length_nil]
      rw [List.take_append_of_le_length (by omega), List.drop_append_of_le_length (by omega)]
    rw [e1] at h
    rw [e2]
    simp only at h ⊢
    rw [if_pos trivial] at h ⊢
    cases hm : meanF (t.take (Lib.index t [59]).toNat) with
    | none => rw [hm] at h; cases h
    | some m' =>
      rw [hm] at h
      simp only [Option.map_some, Option.some.injEq, Prod.mk.injEq] at h ⊢
      obtain ⟨rfl, rfl⟩ := h
      exact ⟨rfl, rfl⟩
  · have e1 : Lib.cut t [59] = (t, [], false) := by unfold Lib.cut; rw [if_neg hi]
    rw [e1] at h
    cases h
theorem readF_app (q : UInt8) (hq : q ≠ 32) (r : List UInt8) : ∀ (f f' : Nat) (l acc m left : List UInt8), l.length + r.length + 1 < f' → readF q f l acc = some (m, left) → left ≠ [] → readF q f' (l ++ 32 :: r) acc = some (m, left ++ 32 :: r)
  | 0, _, _, _, _, _, _, h, _ => by cases h
  | _, 0, _, _, _, _, h, _, _ => by omega
  | f + 1, f' + 1, [], acc, m, left, _, h, hne => by cases h; exact absurd rfl hne
  | f + 1, f' + 1, a :: t, acc, m, left, hf, h, hne => by
    rw [List.cons_append]
    simp only [List.length_cons] at hf
    unfold readF at h ⊢
    by_cases h38 : a = 38
    · rw [if_pos h38] at h ⊢
      cases hc : cutF t with
      | none => rw [hc] at h; cases h
      | some p =>
        obtain ⟨m', rest⟩ := p
        rw [hc] at h
        rw [cutF_app r hc]
        have := (cutF_len hc).1
        exact readF_app q hq r f f' rest _ m left (by omega) h hne
    · rw [if_neg h38] at h ⊢
      by_cases haq : a = q
      · rw [if_pos haq] at h ⊢
        rcases t with _ | ⟨b, t'⟩
        · cases h
          simp only [List.nil_append]
          rw [if_neg (fun e => hq e.symm)]
          rfl
        · simp only [List.cons_append] at h ⊢
          by_cases hb : b = q
          · rw [if_pos hb] at h ⊢
            simp only [List.length_cons] at hf
            exact readF_app q hq r f f' t' _ m left (by omega) h hne
          · rw [if_neg hb] at h ⊢
            cases h
            rfl
      · rw [if_neg haq] at h ⊢
        exact readF_app q hq r f f' t _ m left (by omega) h hne
theorem tokF_app (w r : List UInt8) (hne : w ≠ []) (hsz : (tokF w).2.2 = w.length) : tokF (w ++ 32 :: r) = tokF w := by
  rcases w with _ | ⟨c, t⟩
  · exact absurd rfl hne
  rw [List.cons_append, tok_cons, tok_cons]
  rw [tok_cons] at hsz
  by_cases h36 : c = 36
  · rw [if_pos h36, if_pos h36]
    unfold varF
    rw [plainF_app]
  rw [if_neg h36] at hsz
  rw [if_neg h36, if_neg h36]
  by_cases hq : c = 34 ∨ c = 39
  · rw [if_pos hq] at hsz
    rw [if_pos hq, if_pos hq]
    unfold quoF at hsz ⊢
    cases hr : readF c (t.length + 1) t [] with
    | none => rw [hr] at hsz; simp at hsz
    | some p =>
      obtain ⟨m, left⟩ := p
      rw [hr] at hsz
      simp only at hsz
      by_cases h0 : left = []
      · rw [if_pos h0] at hsz; simp at hsz
      · have hl := readF_left c _ _ _ _ _ hr
        rw [readF_app c (by rcases hq with rfl | rfl <;> decide) r _ ((t ++ 32 :: r).length + 1) t [] m left (by simp only [List.length_append, List.length_cons]; omega) hr h0]
        simp only
        rw [if_neg h0, if_neg (by simp)]
        simp only [List.length_append, List.length_cons, Prod.mk.injEq, true_and]
        omega
  rw [if_neg hq, if_neg hq]
  have e1 : c :: (t ++ 32 :: r) = (c :: t) ++ 32 :: r := rfl
  rw [e1, digF_app, digF_app, numT_app, signF_app (c :: t) r (by simp), qualF_app]
end Go.Proofs.YtolkfhiominjbaaGreatDoor
namespace Go.Proofs.YtolkfhiominjbaaGreatDoor
open Go.RowKit Go.Lib
set_option maxRecDepth 100000
set_option maxHeartbeats 4000000
theorem allGo_acc : ∀ (f : Nat) (s : List UInt8) (cur : Option Tk) (acc L : List Tk), allGo f s cur acc = some L → ∃ M, L = acc ++ M
  | 0, _, _, _, _, h => by cases h
  | f + 1, _, none, _, _, h => by cases h
  | f + 1, s, some t, acc, L, h => by
    unfold allGo at h
    split at h
    · cases h; exact ⟨[], by simp⟩
    · obtain ⟨M, hM⟩ := allGo_acc f s _ _ L h
      exact ⟨t :: M, by rw [hM]; simp⟩
theorem passGo_suffix : ∀ (f : Nat) (l m : List UInt8), passGo f l = some m → m.length = l.length → m = l ∧ Lib.hasPrefix l [40, 58] = false
  | 0, _, _, h, _ => by cases h
  | f + 1, l, m, h, he => by
    unfold passGo at h
    split at h
    · rename_i hp
      split at h
      · cases h
      · rename_i h0
        have h1 := passGo_le f _ m h
        have h2 := trimW_le (l.drop (remGo l 0 0))
        rw [List.length_drop] at h2
        have h3 := remGo_le l.length l 0 0 (Nat.le_refl _)
        obtain ⟨t, rfl⟩ := pre2 hp
        simp only [List.length_cons] at *
        omega
    · rename_i hp
      cases h
      exact ⟨rfl, by simpa using hp⟩
theorem trimW_eq {l : List UInt8} (h : (trimW l).length = l.length) : trimW l = l := by
  unfold trimW Lib.trimLeftS at h ⊢
  exact (List.dropWhile_suffix _).eq_of_length h
/-- A word that is a token by itself, its kind and what it says. -/
def WordIs (w : List UInt8) (k : Nat) (x : List UInt8) : Prop := w ≠ [] ∧ trimW w = w ∧ Lib.hasPrefix w [40, 58] = false ∧ tokF w = (k, x, w.length) ∧ k ≠ 0
theorem word_of {w : List UInt8} {t : Tk} (h : allF w = some [t]) (ha : t.a = 0) (hb : t.b = w.length) : WordIs w t.k t.x := by
  unfold allF at h
  cases hn : nextF w 0 with
  | none => rw [hn] at h; cases h
  | some t0 =>
    rw [hn] at h
    unfold allGo at h
    by_cases hk : t0.k = 0
    · rw [if_pos hk] at h; cases h
    · rw [if_neg hk] at h
      obtain ⟨M, hM⟩ := allGo_acc _ _ _ _ _ h
      simp only [List.nil_append, List.cons_append, List.cons.injEq] at hM
      obtain ⟨rfl, _⟩ := hM
      unfold nextF at hn
      rw [List.drop_zero] at hn
      cases hp : passF w with
      | none => rw [hp] at hn; cases hn
      | some left =>
        rw [hp] at hn
        simp only at hn
        by_cases h0 : left = []
        · rw [if_pos h0] at hn
          cases hn
          exact absurd rfl hk
        · rw [if_neg h0] at hn
          by_cases hz : (tokF left).2.2 = 0
          · rw [if_pos hz] at hn; cases hn
          · rw [if_neg hz] at hn
            cases hn
            simp only at ha hb hk ⊢
            have hle := passF_le hp
            have hlen : left.length = w.length := by omega
            have h1 := passGo_le _ _ _ hp
            have h2 := trimW_le w
            have h3 := trimW_eq (l := w) (by omega)
            have h4 : passGo (w.length + 1) w = some left := by
              have := hp
              unfold passF at this
              rw [h3] at this
              exact this
            obtain ⟨rfl, h5⟩ := passGo_suffix _ _ _ h4 hlen
            refine ⟨h0, h3, h5, ?_, hk⟩
            rw [show left.length = (tokF left).2.2 by omega]
theorem first_no {w : List UInt8} (hne : w ≠ []) (h : trimW w = w) : ∃ c t, w = c :: t ∧ spc.contains c = false := by
  rcases w with _ | ⟨c, t⟩
  · exact absurd rfl hne
  · refine ⟨c, t, rfl, ?_⟩
    cases hc : spc.contains c with
    | false => rfl
    | true =>
      have h1 : trimW (c :: t) = trimW t := by
        unfold trimW Lib.trimLeftS
        rw [List.dropWhile_cons, if_pos hc]
      have h2 := trimW_le t
      rw [h1] at h
      have := congrArg List.length h
      simp only [List.length_cons] at this
      omega
theorem trimW_no (c : UInt8) (t : List UInt8) (h : spc.contains c = false) : trimW (c :: t) = c :: t := by
  unfold trimW Lib.trimLeftS
  rw [List.dropWhile_cons, if_neg (by rw [h]; decide)]
theorem trimW_blank (l : List UInt8) : trimW (32 :: l) = trimW l := by
  unfold trimW Lib.trimLeftS
  rw [List.dropWhile_cons, if_pos (by decide)]
theorem pass_word {w : List UInt8} {k : Nat} {x : List UInt8} (h : WordIs w k x) (r : List UInt8) : passF (w ++ 32 :: r) = some (w ++ 32 :: r) ∧ passF (32 :: (w ++ 32 :: r)) = some (w ++ 32 :: r) := by
  obtain ⟨hne, ht, hp, _, _⟩ := h
  obtain ⟨c, t, rfl, hc⟩ := first_no hne ht
  have e1 : trimW ((c :: t) ++ 32 :: r) = (c :: t) ++ 32 :: r := trimW_no c _ hc
  have e2 : Lib.hasPrefix ((c :: t) ++ 32 :: r) [40, 58] = false := by
    rcases t with _ | ⟨d, t⟩
    · simp [Lib.hasPrefix, List.isPrefixOf]
    · simpa [Lib.hasPrefix, List.isPrefixOf] using hp
  have e3 : ∀ f, passGo (f + 1) ((c :: t) ++ 32 :: r) = some ((c :: t) ++ 32 :: r) := by
    intro f
    unfold passGo
    rw [if_neg (by rw [e2]; decide)]
  constructor
  · unfold passF
    rw [e1]
    exact e3 _
  · unfold passF
    rw [trimW_blank, e1]
    exact e3 _
/-- A text of words, a blank behind each. -/
def cat : List (List UInt8) → List UInt8
  | [] => []
  | w :: r => w ++ 32 :: cat r
theorem next_word {w : List UInt8} {k : Nat} {x : List UInt8} (h : WordIs w k x) (S r y : List UInt8) (p : Nat) (hS : S.drop p = y ++ (w ++ 32 :: r)) (hy : y = [] ∨ y = [32]) : nextF S p = some ⟨k, x, S.length - (w ++ 32 :: r).length, S.length - (w ++ 32 :: r).length + w.length⟩ := by
  have hp : passF (S.drop p) = some (w ++ 32 :: r) := by
    rw [hS]
    rcases hy with rfl | rfl
    · exact (pass_word h r).1
    · exact (pass_word h r).2
  unfold nextF
  rw [hp]
  simp only
  have ht := tokF_app w r h.1 (by rw [h.2.2.2.1])
  rw [h.2.2.2.1] at ht
  rw [if_neg (by simp), ht]
  simp only
  rw [if_neg (by have := h.1; cases w with | nil => exact absurd rfl this | cons => simp)]
theorem next_last (S y : List UInt8) (p : Nat) (hS : S.drop p = y) (hy : y = [] ∨ y = [32]) : nextF S p = some ⟨0, [], S.length, S.length⟩ := by
  unfold nextF
  rw [hS]
  rcases hy with rfl | rfl <;> rfl
theorem all_cat (S : List UInt8) : ∀ (W : List (List UInt8)) (p : Nat) (y : List UInt8) (acc : List Tk) (f : Nat), (∀ w ∈ W, ∃ k x, WordIs w k x) → S.drop p = y ++ cat W → (y = [] ∨ y = [32]) → W.length < f → p ≤ S.length →
    ∃ M : List Tk, allGo f S (nextF S p) acc = some (acc ++ M) ∧ M.length = W.length ∧ ∀ (i : Nat) (w : List UInt8), W[i]? = some w → ∃ t : Tk, M[i]? = some t ∧ t.a ≤ t.b ∧ t.b ≤ S.length ∧ (S.drop t.a).take (t.b - t.a) = w
  | [], p, y, acc, f, _, hS, hy, hf, _ => by
    obtain ⟨f, rfl⟩ : ∃ f', f = f' + 1 := ⟨f - 1, by simp at hf; omega⟩
    rw [next_last S y p (by rw [hS]; simp [cat]) hy]
    refine ⟨[], by unfold allGo; simp, rfl, fun i w h => by simp at h⟩
  | w :: W, p, y, acc, f, hW, hS, hy, hf, hp => by
    obtain ⟨f, rfl⟩ : ∃ f', f = f' + 1 := ⟨f - 1, by omega⟩
    obtain ⟨k, x, hw⟩ := hW w (.head _)
    have hS' : S.drop p = y ++ (w ++ 32 :: cat W) := hS
    rw [next_word hw S (cat W) y p hS' hy]
    have hlen := congrArg List.length hS'
    rw [List.length_drop] at hlen
    simp only [List.length_append, List.length_cons] at hlen
    obtain ⟨a, ha⟩ : ∃ a, S.length - (w ++ 32 :: cat W).length = a := ⟨_, rfl⟩
    have ha' : a + (w.length + ((cat W).length + 1)) = S.length := by rw [← ha]; simp only [List.length_append, List.length_cons]; omega
    rw [ha]
    have hap : a = p + y.length := by omega
    have hda : S.drop a = w ++ 32 :: cat W := by
      rw [hap, ← List.drop_drop, hS']
      exact List.drop_left
    have hdb : S.drop (a + w.length) = [32] ++ cat W := by
      rw [← List.drop_drop, hda, List.drop_left]
      rfl
    obtain ⟨M, h1, h2, h3⟩ := all_cat S W (a + w.length) [32] (acc ++ [⟨k, x, a, a + w.length⟩]) f (fun w' h => hW w' (.tail _ h)) hdb (.inr rfl) (by simp only [List.length_cons] at hf; omega) (by omega)
    refine ⟨⟨k, x, a, a + w.length⟩ :: M, ?_, by simp [h2], fun i w' h => ?_⟩
    · unfold allGo
      simp only
      rw [if_neg hw.2.2.2.2, h1]
      simp
    · rcases i with _ | i
      · simp only [List.getElem?_cons_zero, Option.some.injEq] at h
        subst h
        refine ⟨_, rfl, by simp, by simp only; omega, ?_⟩
        simp only
        rw [hda, show a + w.length - a = w.length by omega, List.take_left]
      · simp only [List.getElem?_cons_succ] at h
        obtain ⟨t, h4, h5⟩ := h3 i w' h
        exact ⟨t, by simpa using h4, h5⟩
theorem cat_len : ∀ (W : List (List UInt8)), (∀ w ∈ W, w.length ≤ 100) → (cat W).length ≤ 101 * W.length
  | [], _ => Nat.le_refl _
  | w :: W, h => by
    have h1 := h w (.head _)
    have h2 := cat_len W fun w' h' => h w' (.tail _ h')
    unfold cat
    simp only [List.length_append, List.length_cons]
    omega
theorem cat_ge : ∀ (W : List (List UInt8)), W.length ≤ (cat W).length
  | [] => Nat.le_refl _
  | w :: W => by
    have h2 := cat_ge W
    unfold cat
    simp only [List.length_append, List.length_cons]
    omega
theorem cat_valid : ∀ (W : List (List UInt8)), (∀ w ∈ W, validX w = true) → validX (cat W) = true
  | [], _ => by kernel_rfl
  | w :: W, h => by
    have h2 := cat_valid W fun w' h' => h w' (.tail _ h')
    unfold cat
    rw [validX_append _ (h w (.head _))]
    have h3 := validX_append (a := [32]) (cat W) (by kernel_rfl)
    exact h3.trans h2
theorem cat_snoc : ∀ (W : List (List UInt8)) (w : List UInt8), cat (W ++ [w]) = cat W ++ (w ++ [32])
  | [], w => by simp [cat]
  | v :: W, w => by
    rw [List.cons_append]
    unfold cat
    rw [cat_snoc W w]
    simp
/-- What All answers of words with blanks between. -/
theorem cat_all (W : List (List UInt8)) (hn : W.length ≤ 200) (h : ∀ w ∈ W, w.length ≤ 100 ∧ okT w 0 = true ∧ ∃ t, allF w = some [t] ∧ t.a = 0 ∧ t.b = w.length) :
    ∃ M : List Tk, allR (cat W) = some M ∧ allE (cat W) = 0 ∧ M.length = W.length ∧ ∀ (i : Nat) (w : List UInt8), W[i]? = some w → ∃ t : Tk, M[i]? = some t ∧ t.a ≤ t.b ∧ t.b ≤ (cat W).length ∧ ((cat W).drop t.a).take (t.b - t.a) = w := by
  have hl := cat_len W fun w hw => (h w hw).1
  have hv := cat_valid W fun w hw => by
    have := (h w hw).2.1
    unfold okT at this
    simp only [Bool.and_eq_true] at this
    exact this.2
  have hok : okT (cat W) 0 = true := by
    unfold okT
    simp only [Bool.and_eq_true, decide_eq_true_eq]
    exact ⟨⟨⟨by omega, by omega⟩, by omega⟩, hv⟩
  obtain ⟨M, h1, h2, h3⟩ := all_cat (cat W) W 0 [] [] ((cat W).length + 2) (fun w hw => by
    obtain ⟨_, _, t, h1, h2, h3⟩ := h w hw
    exact ⟨_, _, word_of h1 h2 h3⟩) rfl (.inl rfl) (by have := cat_ge W; omega) (Nat.zero_le _)
  have hF : allF (cat W) = some M := h1
  refine ⟨M, ?_, ?_, h2, h3⟩
  · unfold allR; rw [if_pos hok]; exact hF
  · unfold allE; rw [if_pos hok, hF]; rfl
end Go.Proofs.YtolkfhiominjbaaGreatDoor
