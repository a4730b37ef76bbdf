/- Plain facts on sums and differences of lists of decimal digits. No condition beyond what the theorems state. -/
import Derived.Test.YtmggffhecopgiaaDoorDigitLists
namespace Go.Proofs.Dig
theorem take_val (a : List Int) (i : Nat) : val (a.take (i + 1)) = val (a.take i) + 10 ^ i * a.getD i 0 := by
  by_cases h : i < a.length
  · rw [List.take_add_one, List.getElem?_eq_getElem h, val_append, List.length_take, Nat.min_eq_left (Nat.le_of_lt h)]
    simp [val, h]
  · rw [List.take_of_length_le (by omega), List.take_of_length_le (by omega)]
    simp [List.getD, List.getElem?_eq_none (by omega : a.length ≤ i)]
theorem getD_dig {a : List Int} (h : isDig a) (i : Nat) : 0 ≤ a.getD i 0 ∧ a.getD i 0 ≤ 9 := by
  by_cases hi : i < a.length
  · rw [List.getD_eq_getElem?_getD, List.getElem?_eq_getElem hi]; exact h _ (List.getElem_mem hi)
  · rw [List.getD_eq_getElem?_getD, List.getElem?_eq_none (by omega)]; simp
theorem isDig_snoc {l : List Int} {d : Int} (h : isDig l) (h0 : 0 ≤ d) (h9 : d ≤ 9) : isDig (l ++ [d]) := isDig_append h fun x hx => by simp at hx; subst hx; exact ⟨h0, h9⟩
theorem val_snoc (l : List Int) (d : Int) : val (l ++ [d]) = val l + 10 ^ l.length * d := by rw [val_append]; simp [val]
/-- What adding digit by digit keeps. -/
def PlusI (a b out : List Int) (c : Int) : Prop := isDig out ∧ 0 ≤ c ∧ c ≤ 1 ∧ val out + 10 ^ out.length * c = val (a.take out.length) + val (b.take out.length)
theorem plus_start (a b : List Int) : PlusI a b [] 0 := ⟨fun d hd => (by cases hd), by decide, by decide, by simp [val]⟩
theorem plus_step {a b out : List Int} {c : Int} (ha : isDig a) (hb : isDig b) (h : PlusI a b out c) :
    PlusI a b (out ++ [(c + a.getD out.length 0 + b.getD out.length 0) % 10]) ((c + a.getD out.length 0 + b.getD out.length 0) / 10) := by
  obtain ⟨h1, h2, h3, h4⟩ := h
  have x := getD_dig ha out.length
  have y := getD_dig hb out.length
  refine ⟨isDig_snoc h1 (by omega) (by omega), by omega, by omega, ?_⟩
  rw [val_snoc, List.length_append, List.length_cons, List.length_nil, Nat.zero_add, take_val, take_val, Int.pow_succ]
  generalize a.getD out.length 0 = p at *
  generalize b.getD out.length 0 = q at *
  generalize val (a.take out.length) = u at *
  generalize val (b.take out.length) = v at *
  have e : c + p + q = (c + p + q) % 10 + 10 * ((c + p + q) / 10) := by omega
  have e2 : (10 : Int) ^ out.length * (c + p + q) = 10 ^ out.length * ((c + p + q) % 10) + 10 ^ out.length * 10 * ((c + p + q) / 10) := by
    conv => lhs; rw [e, Int.mul_add]
    rw [Int.mul_assoc (10 ^ out.length) 10]
  rw [Int.mul_add, Int.mul_add] at e2
  omega
theorem plus_end {a b out : List Int} (h : PlusI a b out 0) (ha : a.length ≤ out.length) (hb : b.length ≤ out.length) : isDig out ∧ val out = val a + val b := by
  obtain ⟨h1, _, _, h4⟩ := h
  rw [List.take_of_length_le ha, List.take_of_length_le hb] at h4
  exact ⟨h1, by simpa using h4⟩
/-- What taking away digit by digit keeps. -/
def MinusI (a b out : List Int) (c : Int) : Prop := isDig out ∧ 0 ≤ c ∧ c ≤ 1 ∧ val out = val (a.take out.length) - val (b.take out.length) + 10 ^ out.length * c
theorem minus_start (a b : List Int) : MinusI a b [] 0 := ⟨fun d hd => (by cases hd), by decide, by decide, by simp [val]⟩
theorem minus_low {a b out : List Int} {c : Int} (ha : isDig a) (hb : isDig b) (h : MinusI a b out c) (hs : a.getD out.length 0 - c - b.getD out.length 0 < 0) :
    MinusI a b (out ++ [a.getD out.length 0 - c - b.getD out.length 0 + 10]) 1 := by
  obtain ⟨h1, h2, h3, h4⟩ := h
  have x := getD_dig ha out.length
  have y := getD_dig hb out.length
  refine ⟨isDig_snoc h1 (by omega) (by omega), by omega, by omega, ?_⟩
  rw [val_snoc, List.length_append, List.length_cons, List.length_nil, Nat.zero_add, take_val, take_val, Int.pow_succ, h4]
  simp only [Int.mul_add, Int.mul_sub]
  omega
theorem minus_high {a b out : List Int} {c : Int} (ha : isDig a) (hb : isDig b) (h : MinusI a b out c) (hs : ¬ a.getD out.length 0 - c - b.getD out.length 0 < 0) :
    MinusI a b (out ++ [a.getD out.length 0 - c - b.getD out.length 0]) 0 := by
  obtain ⟨h1, h2, h3, h4⟩ := h
  have x := getD_dig ha out.length
  have y := getD_dig hb out.length
  refine ⟨isDig_snoc h1 (by omega) (by omega), by omega, by omega, ?_⟩
  rw [val_snoc, List.length_append, List.length_cons, List.length_nil, Nat.zero_add, take_val, take_val, Int.pow_succ, h4]
  simp only [Int.mul_sub]
  omega
theorem minus_end {a b out : List Int} {c : Int} (h : MinusI a b out c) (hl : out.length = a.length) (hb : b.length ≤ a.length) (hge : val b ≤ val a) : isDig out ∧ val out = val a - val b := by
  obtain ⟨h1, h2, h3, h4⟩ := h
  have hlt := val_lt out h1
  rw [List.take_of_length_le (by omega), List.take_of_length_le (by omega)] at h4
  have : c = 0 := by
    rcases Int.lt_or_eq_of_le h2 with h | h
    · have : c = 1 := by omega
      subst this; omega
    · exact h.symm
  subst this
  exact ⟨h1, by simpa using h4⟩
/-- A row parted at a place. -/
theorem val_part (a : List Int) (i : Nat) (h : i < a.length) : val a = val (a.take i) + 10 ^ i * (a.getD i 0 + 10 * val (a.drop (i + 1))) := by
  conv => lhs; rw [← List.take_append_drop i a]
  rw [val_append, List.length_take, Nat.min_eq_left (Nat.le_of_lt h), List.drop_eq_getElem_cons h]
  simp [val, h]
theorem cmp_at {a b : List Int} (ha : isDig a) (hb : isDig b) {i : Nat} (hi : i < a.length) (hj : i < b.length) (he : a.drop (i + 1) = b.drop (i + 1)) (hlt : a.getD i 0 < b.getD i 0) : val a < val b := by
  rw [val_part a i hi, val_part b i hj, he]
  have x := val_lt _ (isDig_take ha i)
  have y := val_nonneg _ (isDig_take hb i)
  rw [List.length_take, Nat.min_eq_left (Nat.le_of_lt hi)] at x
  generalize a.getD i 0 = p at *
  generalize b.getD i 0 = q at *
  have : (10 : Int) ^ i * (p + 1) ≤ 10 ^ i * q := Int.mul_le_mul_of_nonneg_left (by omega) (Int.le_of_lt (p10 _))
  simp only [Int.mul_add, Int.mul_one] at this ⊢
  omega
theorem cmp_len {a b : List Int} (ha : isDig a) (hb : Canon b) (h : a.length < b.length) : val a < val b := by
  rcases Int.lt_or_le (val a) (val b) with h1 | h1
  · exact h1
  · have := canon_len hb ha h1; omega
/-- Sums of rows in form are in form. -/
theorem plus_canon {a b out : List Int} (ha : Canon a) (hb : Canon b) (ho : isDig out) (hv : val out = val a + val b) (hl : out.length ≤ a.length ∨ out.length ≤ b.length ∨ 10 ^ (out.length - 1) ≤ val out) : Canon out := by
  refine ⟨ho, ?_⟩
  by_cases hn : out = []
  · exact .inl hn
  · right
    have va := val_nonneg a ha.1
    have vb := val_nonneg b hb.1
    have mono : ∀ m : Nat, out.length ≤ m → (10 : Int) ^ (out.length - 1) ≤ 10 ^ (m - 1) := fun m hm => by
      have x : (10 : Nat) ^ (out.length - 1) ≤ 10 ^ (m - 1) := Nat.pow_le_pow_right (by decide) (by omega)
      have e1 : (((10 : Nat) ^ (out.length - 1) : Nat) : Int) = 10 ^ (out.length - 1) := by simp
      have e2 : (((10 : Nat) ^ (m - 1) : Nat) : Int) = 10 ^ (m - 1) := by simp
      rw [← e1, ← e2]; exact Int.ofNat_le.2 x
    have hpos : 0 < out.length := by cases out with
      | nil => exact absurd rfl hn
      | cons _ _ => simp
    rcases hl with h | h | h
    · rcases ha.2 with h' | h'
      · subst h'; simp at h; exact absurd h hn
      · have := mono _ h; omega
    · rcases hb.2 with h' | h'
      · subst h'; simp at h; exact absurd h hn
      · have := mono _ h; omega
    · exact h
end Go.Proofs.Dig
