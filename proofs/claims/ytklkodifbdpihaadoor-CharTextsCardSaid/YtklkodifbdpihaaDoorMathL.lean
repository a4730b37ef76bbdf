/- Plain facts on names: what grows to a name and what does not. No condition beyond what the theorems state. -/
import Derived.Test.YtklkodifbdpihaaDoorMathS
import Derived.Test.YtklkodifbdpihaaDoorNameRef
namespace Go.Proofs.YtklkodifbdpihaaDoor
open Go.RowKit Go.Lib
theorem good_ok (l : List UInt8) (h : ¬ ((decodeL l).1 = 65533 ∧ (decodeL l).2 = 1)) : runeOk (decodeL l).1 := by
  rw [decodeL_N] at h ⊢
  unfold runeOk
  have := UInt8.toNat_lt (l.getD 0 0)
  rcases decodeN_shape l.length (l.getD 0 0).toNat (l.getD 1 0).toNat (l.getD 2 0).toNat (l.getD 3 0).toNat with ⟨c, e⟩ | ⟨a1, a2, a3, cv, e⟩ | ⟨a1, a2, a3, a4, cv, cs, e⟩ | ⟨a1, a2, a3, a4, a5, cv, cw, e⟩ | e
  · rw [e]; simp only; omega
  · rw [e]; simp only; omega
  · rw [e]; simp only; omega
  · rw [e]; simp only; omega
  · rw [e] at h; exact absurd ⟨rfl, rfl⟩ h
/-- the first step of a valid list, whatever follows -/
theorem step_append (a b : List UInt8) (hne : a ≠ []) (h : ¬ ((decodeL a).1 = 65533 ∧ (decodeL a).2 = 1)) : decodeL (a ++ b) = decodeL a ∧ (a ++ b).drop (decodeL a).2 = a.drop (decodeL a).2 ++ b := by
  have he : enc (decodeL a).1 = a.take (decodeL a).2 := encode_decode a hne h
  have hle := decodeL_le a hne
  have e : a ++ b = enc (decodeL a).1 ++ (a.drop (decodeL a).2 ++ b) := by rw [he, ← List.append_assoc, List.take_append_drop]
  have hlen : (enc (decodeL a).1).length = (decodeL a).2 := by rw [he, List.length_take]; omega
  constructor
  · rw [e, decode_enc _ (good_ok a h), hlen]
  · rw [List.drop_append_of_le_length hle]
theorem valid_append : ∀ (n : Nat) (a b : List UInt8), a.length ≤ n → validD a = true → validD (a ++ b) = validD b ∧ runes (a ++ b) = runes a ++ runes b
  | 0, a, b, h, _ => by
    have : a = [] := List.eq_nil_of_length_eq_zero (by omega)
    subst this; exact ⟨rfl, rfl⟩
  | n + 1, a, b, h, hv => by
    by_cases ha : a = []
    · subst ha; exact ⟨rfl, rfl⟩
    · obtain ⟨g1, g2⟩ := valid_cut a ha hv
      obtain ⟨s1, s2⟩ := step_append a b ha g1
      have hlt := drop_lt a ha
      obtain ⟨i1, i2⟩ := valid_append n (a.drop (decodeL a).2) b (by omega) g2
      have hne : a ++ b ≠ [] := by simp [ha]
      constructor
      · rw [validD_step _ hne, s1, if_neg g1, s2, i1]
      · rw [runes_step _ hne, s1, s2, i2, runes_step a ha]; rfl
theorem validD_append {a : List UInt8} (b : List UInt8) (h : validD a = true) : validD (a ++ b) = validD b := (valid_append _ a b (Nat.le_refl _) h).1
theorem runes_append {a : List UInt8} (b : List UInt8) (h : validD a = true) : runes (a ++ b) = runes a ++ runes b := (valid_append _ a b (Nat.le_refl _) h).2
theorem validX_append {a : List UInt8} (b : List UInt8) (h : validX a = true) : validX (a ++ b) = validX b := by
  unfold validX at h ⊢
  obtain ⟨h1, h2⟩ := Bool.and_eq_true_iff.1 h
  rw [validD_append b h1, runes_append b h1, List.all_append, h2]
  simp
theorem one_byte (b : UInt8) (h : b.toNat < 128) : runes [b] = [b.toNat] ∧ validD [b] = true := by
  have e := dec_low [b] (by simpa using h)
  constructor
  · rw [runes_step _ (by simp), e]
    simp [runes_nil]
  · rw [validD_step _ (by simp), e]
    simp only [List.getD_cons_zero]
    rw [if_neg (by omega)]; rfl
theorem nameX_split {l : List UInt8} (h : nameX l = true) : validX l = true ∧ validD l = true ∧ runes l ≠ [] ∧ ∀ k, k < (runes l).length → okP k ((runes l).getD k 0) := by
  unfold nameX at h
  obtain ⟨h1, h2⟩ := Bool.and_eq_true_iff.1 h
  have h3 : validD l = true := by unfold validX at h1; exact (Bool.and_eq_true_iff.1 h1).1
  refine ⟨h1, h3, ?_, ?_⟩
  · intro e; rw [e] at h2; simp [nameB] at h2
  · intro k hk
    rcases Decidable.em (okP k ((runes l).getD k 0)) with h' | h'
    · exact h'
    · rw [nameB_false k hk h'] at h2; cases h2
theorem nameX_mk {l : List UInt8} (h1 : validX l = true) (h2 : runes l ≠ []) (h3 : ∀ k, k < (runes l).length → okP k ((runes l).getD k 0)) : nameX l = true := by
  unfold nameX; rw [h1, nameB_true h2 h3]; rfl
theorem nameX_no {l : List UInt8} (k : Nat) (hk : k < (runes l).length) (h : ¬ okP k ((runes l).getD k 0)) : nameX l = false := by
  unfold nameX; rw [nameB_false k hk h]; simp
theorem name_snoc {l : List UInt8} (h : nameX l = true) (b : UInt8) (hb : b.toNat < 128) (hx : xmlN b.toNat = true) (ho : ∀ k, 0 < k → okP k b.toNat) : nameX (l ++ [b]) = true := by
  obtain ⟨h1, h2, h3, h4⟩ := nameX_split h
  obtain ⟨r1, r2⟩ := one_byte b hb
  have hr : runes (l ++ [b]) = runes l ++ [b.toNat] := by rw [runes_append _ h2, r1]
  refine nameX_mk ?_ (by rw [hr]; simp) ?_
  · rw [validX_append _ h1]; unfold validX; rw [r1, r2]; simp [hx]
  · intro k hk
    rw [hr] at hk ⊢
    rw [List.length_append, List.length_singleton] at hk
    rw [List.getD_eq_getElem?_getD]
    by_cases c : k < (runes l).length
    · rw [List.getElem?_append_left c, ← List.getD_eq_getElem?_getD]; exact h4 k c
    · rw [List.getElem?_append_right (by omega), show k - (runes l).length = 0 from by omega]
      have : 0 < (runes l).length := List.length_pos_iff.2 h3
      simpa using ho k (by omega)
theorem name_snoc_no {l : List UInt8} (h : nameX l = true) (b : UInt8) (hb : b.toNat < 128) (ho : ∀ k, ¬ okP k b.toNat) : nameX (l ++ [b]) = false := by
  obtain ⟨h1, h2, h3, h4⟩ := nameX_split h
  obtain ⟨r1, r2⟩ := one_byte b hb
  have hr : runes (l ++ [b]) = runes l ++ [b.toNat] := by rw [runes_append _ h2, r1]
  refine nameX_no (runes l).length (by rw [hr]; simp) ?_
  rw [hr, List.getD_eq_getElem?_getD, List.getElem?_append_right (Nat.le_refl _)]
  simpa using ho _
theorem name_cons {l : List UInt8} (h : nameX l = true) (b : UInt8) (hb : b.toNat < 128) (hx : xmlN b.toNat = true) (ho : okP 0 b.toNat) : nameX ([b] ++ l) = true := by
  obtain ⟨h1, h2, h3, h4⟩ := nameX_split h
  obtain ⟨r1, r2⟩ := one_byte b hb
  have hr : runes ([b] ++ l) = b.toNat :: runes l := by rw [runes_append _ r2, r1]; rfl
  refine nameX_mk ?_ (by rw [hr]; simp) ?_
  · rw [validX_append l (by unfold validX; rw [r1, r2]; simp [hx]), h1]
  · intro k hk
    rw [hr] at hk ⊢
    cases k with
    | zero => simpa using ho
    | succ k =>
      rw [List.length_cons] at hk
      rw [List.getD_cons_succ]
      rcases h4 k (by omega) with h' | h'
      · exact .inl h'
      · exact .inr ⟨by omega, h'.2⟩
theorem name_cons_no {l : List UInt8} (b : UInt8) (hb : b.toNat < 128) (ho : ¬ okP 0 b.toNat) : nameX ([b] ++ l) = false := by
  obtain ⟨r1, r2⟩ := one_byte b hb
  have hr : runes ([b] ++ l) = b.toNat :: runes l := by rw [runes_append _ r2, r1]; rfl
  exact nameX_no 0 (by rw [hr]; simp) (by rw [hr]; simpa using ho)
theorem enc_bytes (r : Nat) (h : runeOk r) (hs : spR r = false) : ∀ x ∈ enc r, spN x = false := by
  intro x hx
  rw [encZ r h] at hx
  have h' := h
  unfold runeOk at h'
  split at hx
  · simp only [List.mem_singleton] at hx
    subst hx
    unfold spN
    rw [u8N r (by omega)]; exact hs
  · have big : 128 ≤ x.toNat := by
      split at hx
      · simp only [List.mem_cons, List.mem_nil_iff, or_false] at hx
        rcases hx with rfl | rfl <;> rw [u8N _ (by omega)] <;> omega
      · split at hx
        · simp only [List.mem_cons, List.mem_nil_iff, or_false] at hx
          rcases hx with rfl | rfl | rfl <;> rw [u8N _ (by omega)] <;> omega
        · simp only [List.mem_cons, List.mem_nil_iff, or_false] at hx
          rcases hx with rfl | rfl | rfl | rfl <;> rw [u8N _ (by omega)] <;> omega
    exact spN_high big
theorem runes_ok : ∀ (n : Nat) (l : List UInt8), l.length ≤ n → validD l = true → ∀ r ∈ runes l, runeOk r
  | 0, l, h, _ => by
    have : l = [] := List.eq_nil_of_length_eq_zero (by omega)
    subst this; intro r hr; simp [runes_nil] at hr
  | n + 1, l, h, hv => by
    by_cases hl : l = []
    · subst hl; intro r hr; simp [runes_nil] at hr
    · obtain ⟨g1, g2⟩ := valid_cut l hl hv
      have hlt := drop_lt l hl
      intro r hr
      rw [runes_step l hl] at hr
      rcases List.mem_cons.1 hr with rfl | hr
      · exact good_ok l g1
      · exact runes_ok n _ (by omega) g2 r hr
theorem okP_space {k r : Nat} (h : okP k r) : spR r = false := by
  cases hb : spR r
  · rfl
  · have := (spaceB_iff _).1 hb
    unfold spaceP at this
    unfold okP letterP followP at h
    omega
theorem name_bytes {l : List UInt8} (h : nameX l = true) : ∀ x ∈ l, spN x = false := by
  obtain ⟨h1, h2, h3, h4⟩ := nameX_split h
  intro x hx
  rw [← flat_runes h2] at hx
  obtain ⟨r, hr, hxr⟩ := List.mem_flatMap.1 hx
  obtain ⟨k, hk, e⟩ := List.mem_iff_getElem.1 hr
  have ho := h4 k hk
  rw [List.getD_eq_getElem?_getD, List.getElem?_eq_getElem hk, Option.getD_some, e] at ho
  exact enc_bytes r (runes_ok _ l (Nat.le_refl _) h2 r hr) (okP_space ho) x hxr
theorem name_ne {l : List UInt8} (h : nameX l = true) : l ≠ [] := by
  rintro rfl
  obtain ⟨_, _, h3, _⟩ := nameX_split h
  exact h3 runes_nil
theorem name_trim {l : List UInt8} (h : nameX l = true) : trimB l = l := by
  have hb := name_bytes h
  have hne := name_ne h
  have := trimB_of [] l [] (by simp) (by simp) (.inr ⟨by
    cases l with
    | nil => exact absurd rfl hne
    | cons x t => exact ⟨x, t, rfl, hb x (by simp)⟩, l.dropLast, l.getLast hne, (List.dropLast_concat_getLast hne).symm, hb _ (List.getLast_mem hne)⟩)
  simpa using this
theorem name_normal {l : List UInt8} (h : nameX l = true) : normB ([32] ++ l ++ [10] ++ l) = l ++ [32] ++ l := by
  have hb := name_bytes h
  have hne := name_ne h
  rw [← nz_norm]
  have s32 : spN 32 = true := by decide
  have s10 : spN 10 = true := by decide
  rw [List.append_assoc, List.append_assoc, List.singleton_append, nz, if_pos s32, nz_take _ _ _ _ hne hb, List.singleton_append, nz, if_pos s10]
  have := nz_take true false l [] hne hb
  rw [List.append_nil] at this
  rw [this]
  simp [nz]
end Go.Proofs.YtklkodifbdpihaaDoor
