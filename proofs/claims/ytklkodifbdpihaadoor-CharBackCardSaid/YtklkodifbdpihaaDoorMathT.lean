/- Plain facts: trimming runes is trimming bytes. No condition beyond what the theorems state. -/
import Derived.Test.YtklkodifbdpihaaDoorTrimRef
import Derived.Test.YtklkodifbdpihaaDoorShelf
namespace Go.Proofs.YtklkodifbdpihaaDoor
open Go.RowKit Go.Lib
def spR (r : Nat) : Bool := spaceB (r : Int)
theorem spR_high {r : Nat} (h : 128 ≤ r) : spR r = false := by
  cases hb : spR r
  · rfl
  · have := (spaceB_iff _).1 hb; unfold spaceP at this; omega
theorem spN_high {b : UInt8} (h : 128 ≤ b.toNat) : spN b = false := spR_high h
theorem decN_high (n b0 b1 b2 b3 : Nat) (h : 128 ≤ b0) : 128 ≤ (decodeN n b0 b1 b2 b3).1 := by
  rcases decodeN_shape n b0 b1 b2 b3 with ⟨c, e⟩ | ⟨c1, c2, c3, cv, e⟩ | ⟨c1, c2, c3, c4, cv, cs, e⟩ | ⟨c1, c2, c3, c4, c5, cv, cw, e⟩ | e
  · omega
  all_goals (rw [e]; simp only; omega)
theorem dec_low (l : List UInt8) (h : (l.getD 0 0).toNat < 128) : decodeL l = ((l.getD 0 0).toNat, 1) := by
  rw [decodeL_N]; exact decodeN_ascii _ _ _ _ _ h
theorem dec_high (l : List UInt8) (h : 128 ≤ (l.getD 0 0).toNat) : 128 ≤ (decodeL l).1 := by
  rw [decodeL_N]; exact decN_high _ _ _ _ _ h
theorem dec_space (l : List UInt8) : spR (decodeL l).1 = spN (l.getD 0 0) ∧ (spN (l.getD 0 0) = true → (decodeL l).2 = 1) := by
  by_cases h : (l.getD 0 0).toNat < 128
  · rw [dec_low l h]; exact ⟨rfl, fun _ => rfl⟩
  · have h' : 128 ≤ (l.getD 0 0).toNat := by omega
    rw [spR_high (dec_high l h'), spN_high h']
    exact ⟨rfl, fun h => by cases h⟩
theorem getD_drop (l : List UInt8) (k j : Nat) : (l.drop k).getD j 0 = l.getD (k + j) 0 := by simp [List.getD, List.getElem?_drop]
theorem dropWhile_drop (l : List UInt8) (k : Nat) (hk : k < l.length) : (l.drop k).dropWhile spN = if spN (l.getD k 0) = true then (l.drop (k + 1)).dropWhile spN else l.drop k := by
  rw [List.drop_eq_getElem_cons hk, List.dropWhile_cons, List.getD_eq_getElem?_getD, List.getElem?_eq_getElem hk]
  rfl
theorem idx_spec (s : ByteArray) : ∀ (f pos : Nat), s.size ≤ pos + f → pos ≤ s.size →
    (idxFuncFrom spR false s f pos = -1 ∧ (s.data.toList.drop pos).dropWhile spN = []) ∨ ∃ i : Nat, pos ≤ i ∧ i < s.size ∧ idxFuncFrom spR false s f pos = (i : Int) ∧ (s.data.toList.drop pos).dropWhile spN = s.data.toList.drop i
  | 0, pos, h, hp => by
    left
    have : pos = s.size := by omega
    subst this
    exact ⟨rfl, by rw [List.drop_eq_nil_of_le (by simp)]; rfl⟩
  | f + 1, pos, h, hp => by
    unfold idxFuncFrom
    by_cases hlt : pos < s.size
    · rw [if_pos hlt]
      have hl : pos < s.data.toList.length := by simpa using hlt
      have hd := dec_space (s.data.toList.drop pos)
      rw [decodeL_drop, getD_drop, Nat.add_zero] at hd
      rw [hd.1, dropWhile_drop _ _ hl]
      cases hb : spN (s.data.toList.getD pos 0)
      · right
        exact ⟨pos, Nat.le_refl _, hlt, by simp, by simp⟩
      · rw [hd.2 hb]
        simp only [Bool.true_eq_false, if_false, if_true]
        rcases idx_spec s f (pos + 1) (by omega) (by omega) with h' | ⟨i, h1, h2, h3, h4⟩
        · exact .inl h'
        · exact .inr ⟨i, by omega, h2, h3, h4⟩
    · rw [if_neg hlt]
      left
      exact ⟨rfl, by rw [List.drop_eq_nil_of_le (by simp; omega)]; rfl⟩
theorem trimLeft_list (s : ByteArray) : (trimLeftF spR s).data.toList = s.data.toList.dropWhile spN := by
  unfold trimLeftF idxFunc
  rcases idx_spec s s.size 0 (by omega) (by omega) with ⟨h1, h2⟩ | ⟨i, h0, h1, h2, h3⟩
  · rw [if_pos h1]
    rw [List.drop_zero] at h2
    rw [h2]
  · rw [h2, if_neg (by omega)]
    rw [List.drop_zero] at h3
    rw [h3, show (i : Int).toNat = i from by omega, extract_list, List.take_of_length_le (by simp)]
theorem take_ne (l : List UInt8) (j : Nat) (h0 : 0 < j) (hj : j ≤ l.length) : l.take j ≠ [] := by
  intro e
  have := congrArg List.length e
  rw [List.length_take, List.length_nil] at this
  omega
theorem last_spec (s : ByteArray) : ∀ (f i : Nat), i ≤ f → i ≤ s.size →
    (lastIdxFuncFrom spR false s f i = -1 ∧ ∀ k, k < i → spN (s.data.toList.getD k 0) = true) ∨
    ∃ j : Nat, 0 < j ∧ j ≤ i ∧ spN (s.data.toList.getD (j - 1) 0) = false ∧ (∀ k, j ≤ k → k < i → spN (s.data.toList.getD k 0) = true) ∧ lastIdxFuncFrom spR false s f i = ((j - (decodeLastL (s.data.toList.take j)).2 : Nat) : Int)
  | 0, i, h, hp => by
    left
    have : i = 0 := by omega
    subst this
    exact ⟨rfl, fun k hk => absurd hk (by omega)⟩
  | f + 1, i, h, hp => by
    unfold lastIdxFuncFrom
    by_cases h0 : 0 < i
    · rw [if_pos h0]
      have hne : s.data.toList.take i ≠ [] := take_ne _ _ h0 (by simpa using hp)
      have hlen : (s.data.toList.take i).length = i := by simp; omega
      have hlast : (s.data.toList.take i).getD ((s.data.toList.take i).length - 1) 0 = s.data.toList.getD (i - 1) 0 := by rw [hlen, getD_takeU _ _ _ (by omega)]
      cases hb : spN (s.data.toList.getD (i - 1) 0)
      · right
        refine ⟨i, h0, Nat.le_refl _, hb, fun k a b => absurd a (by omega), ?_⟩
        have hr : spR (decodeLastL (s.data.toList.take i)).1 = false := by
          unfold decodeLastL
          rw [if_neg hne, hlast]
          split
          · exact hb
          · have hd := dec_high
            by_cases c : lastStart (s.data.toList.take i) + (decodeL ((s.data.toList.take i).drop (lastStart (s.data.toList.take i)))).2 = (s.data.toList.take i).length
            · simp only [c, if_true]
              -- the rune of a good decoding that takes the last byte in
              by_cases hlow : (((s.data.toList.take i).drop (lastStart (s.data.toList.take i))).getD 0 0).toNat < 128
              · exfalso
                rw [dec_low _ hlow] at c
                rw [getD_drop] at hlow
                simp only at c
                rw [show lastStart (s.data.toList.take i) + 0 = (s.data.toList.take i).length - 1 from by omega, hlast] at hlow
                omega
              · exact spR_high (hd _ (by omega))
            · simp only [c, if_false]
              exact spR_high (by simp [Utf8.runeError])
        rw [hr]; simp
      · have hlo : (s.data.toList.getD (i - 1) 0).toNat < 128 := by
          rcases Nat.lt_or_ge (s.data.toList.getD (i - 1) 0).toNat 128 with h' | h'
          · exact h'
          · rw [spN_high h'] at hb; cases hb
        have e : decodeLastL (s.data.toList.take i) = ((s.data.toList.getD (i - 1) 0).toNat, 1) := by
          unfold decodeLastL
          rw [if_neg hne, hlast, if_pos hlo]
        rw [e]
        simp only
        rw [show spR (s.data.toList.getD (i - 1) 0).toNat = true from hb]
        simp only [Bool.true_eq_false, if_false]
        rcases last_spec s f (i - 1) (by omega) (by omega) with ⟨h1, h2⟩ | ⟨j, h1, h2, h3, h4, h5⟩
        · left
          refine ⟨h1, fun k hk => ?_⟩
          by_cases c : k = i - 1
          · subst c; exact hb
          · exact h2 k (by omega)
        · right
          refine ⟨j, h1, by omega, h3, fun k a b => ?_, h5⟩
          by_cases c : k = i - 1
          · subst c; exact hb
          · exact h4 k a (by omega)
    · rw [if_neg h0]
      left
      exact ⟨rfl, fun k hk => absurd hk (by omega)⟩
/-- a decoding that ends where the string is cut goes on as it is -/
theorem decN_more (n n' b0 b1 b2 b3 c1 c2 c3 : Nat) (h0 : 128 ≤ b0) (m : Nat) (hm : (decodeN n b0 b1 b2 b3).2 = m) (hn : n = m) (hnn : m ≤ n')
    (h1 : 1 < m → c1 = b1) (h2 : 2 < m → c2 = b2) (h3 : 3 < m → c3 = b3) (hs : m = 1 → n' = 1 ∨ c1 < 128) : (decodeN n' b0 c1 c2 c3).2 = m := by
  subst hn
  rcases decodeN_shape n b0 b1 b2 b3 with ⟨c, e⟩ | ⟨a1, a2, a3, cv, e⟩ | ⟨a1, a2, a3, a4, cv, cs, e⟩ | ⟨a1, a2, a3, a4, a5, cv, cw, e⟩ | e
  · omega
  · rw [e] at hm; simp only at hm; subst hm
    have e1 := h1 (by omega); subst e1
    unfold decodeN; rw [if_neg (by omega), if_pos (by omega), if_pos (by omega)]
  · rw [e] at hm; simp only at hm; subst hm
    have e1 := h1 (by omega); subst e1
    have e2 := h2 (by omega); subst e2
    unfold decodeN; rw [if_neg (by omega), if_neg (by omega), if_pos (by omega), if_pos (by omega)]
  · rw [e] at hm; simp only at hm; subst hm
    have e1 := h1 (by omega); subst e1
    have e2 := h2 (by omega); subst e2
    have e3 := h3 (by omega); subst e3
    unfold decodeN; rw [if_neg (by omega), if_neg (by omega), if_neg (by omega), if_pos (by omega), if_pos (by omega)]
  · rw [e] at hm; simp only at hm; subst hm
    have hs' := hs rfl
    unfold decodeN; rw [if_neg (by omega), if_neg (by omega), if_neg (by omega), if_neg (by omega)]
theorem lone (n b0 c1 c2 c3 : Nat) (h0 : 128 ≤ b0) (hs : n = 1 ∨ c1 < 128) : (decodeN n b0 c1 c2 c3).2 = 1 := by
  unfold decodeN; rw [if_neg (by omega), if_neg (by omega), if_neg (by omega), if_neg (by omega)]
theorem last_width (l : List UInt8) (j : Nat) (h0 : 0 < j) (hj : j ≤ l.length) (_hb : spN (l.getD (j - 1) 0) = false) (hn : j = l.length ∨ spN (l.getD j 0) = true) :
    (decodeLastL (l.take j)).2 ≤ j ∧ (j - (decodeLastL (l.take j)).2) + (decodeL (l.drop (j - (decodeLastL (l.take j)).2))).2 = j := by
  have hlow : j = l.length ∨ (l.getD j 0).toNat < 128 := by
    rcases hn with h | h
    · exact .inl h
    · rcases Nat.lt_or_ge (l.getD j 0).toNat 128 with h' | h'
      · exact .inr h'
      · rw [spN_high h'] at h; cases h
  have hne : l.take j ≠ [] := take_ne _ _ h0 hj
  have hlen : (l.take j).length = j := by simp; omega
  have hlast : (l.take j).getD ((l.take j).length - 1) 0 = l.getD (j - 1) 0 := by rw [hlen, getD_takeU _ _ _ (by omega)]
  unfold decodeLastL
  rw [if_neg hne, hlast]
  by_cases c : (l.getD (j - 1) 0).toNat < 128
  · rw [if_pos c]
    simp only
    have e := dec_low (l.drop (j - 1)) (by rw [getD_drop]; exact c)
    rw [e]
    simp only
    omega
  · rw [if_neg c]
    obtain ⟨k, hk⟩ : ∃ k, lastStart (l.take j) = k := ⟨_, rfl⟩
    rw [hk, hlen]
    have lone1 : (decodeL (l.drop (j - 1))).2 = 1 := by
      rw [decodeL_N, getD_drop, getD_drop, getD_drop, getD_drop, List.length_drop]
      refine lone _ _ _ _ _ (by simpa using (by omega : 128 ≤ (l.getD (j - 1) 0).toNat)) ?_
      rcases hlow with h | h
      · left; omega
      · right; rw [show j - 1 + 1 = j from by omega]; exact h
    by_cases d : k + (decodeL ((l.take j).drop k)).2 = j
    · simp only [d, if_true]
      obtain ⟨m, hm⟩ : ∃ m, (decodeL ((l.take j).drop k)).2 = m := ⟨_, rfl⟩
      have hm1 : 1 ≤ m := by rw [← hm]; exact decodeL_width _
      rw [hm] at d ⊢
      refine ⟨by omega, ?_⟩
      rw [show j - m = k from by omega]
      rw [decodeL_N, getD_drop, getD_drop, getD_drop, getD_drop, List.length_drop, hlen] at hm
      rw [Nat.add_zero, getD_takeU _ _ k (by omega)] at hm
      by_cases hb0 : (l.getD k 0).toNat < 128
      · rw [dec_low _ (by rw [getD_drop]; exact hb0)]
        simp only
        rw [decodeN_ascii _ _ _ _ _ hb0] at hm
        simp only at hm
        omega
      · rw [decodeL_N, getD_drop, getD_drop, getD_drop, getD_drop, List.length_drop, Nat.add_zero]
        have := decN_more (j - k) (l.length - k) (l.getD k 0).toNat ((l.take j).getD (k + 1) 0).toNat ((l.take j).getD (k + 2) 0).toNat ((l.take j).getD (k + 3) 0).toNat
          (l.getD (k + 1) 0).toNat (l.getD (k + 2) 0).toNat (l.getD (k + 3) 0).toNat (by omega) m hm (by omega) (by omega)
          (fun h => by rw [getD_takeU _ _ _ (by omega)]) (fun h => by rw [getD_takeU _ _ _ (by omega)]) (fun h => by rw [getD_takeU _ _ _ (by omega)])
          (fun h => by
            rcases hlow with h' | h'
            · left; omega
            · right; rw [show k + 1 = j from by omega]; exact h')
        rw [this]
        omega
    · simp only [d, if_false]
      rw [lone1]
      omega
theorem trimRight_list (s : ByteArray) : (trimRightF spR s).data.toList = (s.data.toList.reverse.dropWhile spN).reverse := by
  have hsz : s.data.toList.length = s.size := by simp
  unfold trimRightF rightEndF lastIdxFunc
  rcases last_spec s s.size s.size (Nat.le_refl _) (Nat.le_refl _) with ⟨h1, h2⟩ | ⟨j, h0, hj, hb, hq, he⟩
  · rw [h1, if_neg (by omega)]
    have : s.data.toList.reverse.dropWhile spN = [] := by
      have := dropWhile_all s.data.toList.reverse [] (p := spN) (by
        intro x hx
        obtain ⟨k, _, hk, rfl⟩ := mem_drop_get (l := s.data.toList) (k := 0) (by simpa using hx)
        exact h2 k (by omega))
      simpa using this
    rw [this]
    simp
  · have hw := last_width s.data.toList j h0 (by omega) hb (by
      by_cases c : j = s.data.toList.length
      · exact .inl c
      · exact .inr (hq j (Nat.le_refl _) (by omega)))
    rw [he, if_pos (by omega)]
    obtain ⟨k, hk⟩ : ∃ k, j - (decodeLastL (s.data.toList.take j)).2 = k := ⟨_, rfl⟩
    rw [hk] at hw ⊢
    have hgo : (decodeGoB (s.extract (k : Int).toNat s.size)).2 = (decodeL (s.data.toList.drop k)).2 := by
      have hk1 : 1 ≤ (decodeL (s.data.toList.drop k)).2 := decodeL_width _
      unfold decodeGoB
      rw [show (k : Int).toNat = k from by omega, if_neg (by simp; omega), ← decodeL_drop, List.drop_zero, extract_list, List.take_of_length_le (by simp)]
    rw [hgo, show (k : Int).toNat = k from by omega, hw.2, extract_list, List.drop_zero]
    conv => rhs; rw [← List.take_append_drop j s.data.toList]
    rw [List.reverse_append, dropWhile_all _ _ (by
      intro x hx
      obtain ⟨m, hm, hm2, rfl⟩ := mem_drop_get (l := s.data.toList) (k := j) (by simpa using hx)
      exact hq m hm (by omega))]
    have e : s.data.toList.take j = s.data.toList.take (j - 1) ++ [s.data.toList.getD (j - 1) 0] := by
      conv => lhs; rw [show j = (j - 1) + 1 from by omega]
      rw [List.take_succ_eq_append_getElem (by omega), List.getD_eq_getElem?_getD, List.getElem?_eq_getElem (by omega)]
      rfl
    rw [e, List.reverse_append, List.reverse_singleton, List.singleton_append, dropWhile_head _ _ hb]
    simp
theorem trimF_list (s : ByteArray) : (trimF spR s).data.toList = trimB s.data.toList := by
  unfold trimF trimB
  rw [trimRight_list, trimLeft_list]
end Go.Proofs.YtklkodifbdpihaaDoor
