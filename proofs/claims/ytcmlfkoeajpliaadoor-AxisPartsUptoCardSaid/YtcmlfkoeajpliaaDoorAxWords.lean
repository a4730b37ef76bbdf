/- The axes of numbered nodes, in plain words; nodes of right trees. No condition beyond what the theorems state. -/
import Derived.Test.YtcmlfkoeajpliaaDoorNesting
namespace Go.Proofs.YtcmlfkoeajpliaaDoor
/-- The least number above m, up to N, at which P holds; else 0. -/
def upF (P : Nat → Bool) (N m : Nat) : Nat := ((List.range' (m + 1) (N - m)).find? P).getD 0
/-- All such numbers. -/
def fwdL (P : Nat → Bool) (N m : Nat) : List Nat := (List.range' (m + 1) (N - m)).filter P
/-- The greatest number below m at which P holds; else 0. -/
def dnF (P : Nat → Bool) : Nat → Nat
  | 0 => 0
  | m + 1 => if m ≠ 0 ∧ P m = true then m else dnF P m
def bwdL (P : Nat → Bool) : Nat → List Nat
  | 0 => []
  | m + 1 => if m ≠ 0 ∧ P m = true then m :: bwdL P m else bwdL P m
/-- From number to number, up to a 0. -/
def Ch (f : Nat → Nat) : Nat → List Nat → Prop
  | m, [] => m = 0
  | m, x :: xs => m = x ∧ x ≠ 0 ∧ Ch f (f x) xs
theorem up_none {P : Nat → Bool} {N m : Nat} (h : N ≤ m) : upF P N m = 0 := by unfold upF; rw [show N - m = 0 by omega]; rfl
theorem up_rec {P : Nat → Bool} {N m : Nat} (h : m < N) : upF P N m = if P (m + 1) = true then m + 1 else upF P N (m + 1) := by
  unfold upF
  obtain ⟨d, hd⟩ : ∃ d, N - m = d + 1 := ⟨N - m - 1, by omega⟩
  rw [hd, List.range'_succ, List.find?_cons, show N - (m + 1) = d by omega]
  cases P (m + 1) <;> simp
theorem fwd_none {P : Nat → Bool} {N m : Nat} (h : N ≤ m) : fwdL P N m = [] := by unfold fwdL; rw [show N - m = 0 by omega]; rfl
theorem fwd_rec {P : Nat → Bool} {N m : Nat} (h : m < N) : fwdL P N m = if P (m + 1) = true then (m + 1) :: fwdL P N (m + 1) else fwdL P N (m + 1) := by
  unfold fwdL
  obtain ⟨d, hd⟩ : ∃ d, N - m = d + 1 := ⟨N - m - 1, by omega⟩
  rw [hd, List.range'_succ, List.filter_cons, show N - (m + 1) = d by omega]
theorem up_cases (P : Nat → Bool) (N m : Nat) : (upF P N m = 0 ∧ ∀ j, m < j → j ≤ N → P j = false) ∨ (m < upF P N m ∧ upF P N m ≤ N ∧ P (upF P N m) = true ∧ ∀ j, m < j → j < upF P N m → P j = false) := by
  obtain ⟨d, hd⟩ : ∃ d, N - m = d := ⟨_, rfl⟩
  induction d generalizing m with
  | zero => exact .inl ⟨up_none (by omega), fun j h1 h2 => by omega⟩
  | succ d ih =>
    rw [up_rec (show m < N by omega)]
    by_cases hp : P (m + 1) = true
    · rw [if_pos hp]
      exact .inr ⟨by omega, by omega, hp, fun j h1 h2 => by omega⟩
    · rw [if_neg hp]
      have hp' : P (m + 1) = false := by simpa using hp
      rcases ih (m + 1) (by omega) with ⟨h1, h2⟩ | ⟨h1, h2, h3, h4⟩
      · refine .inl ⟨h1, fun j hj1 hj2 => ?_⟩
        rcases Nat.eq_or_lt_of_le (show m + 1 ≤ j from hj1) with rfl | h
        · exact hp'
        · exact h2 j h hj2
      · refine .inr ⟨by omega, h2, h3, fun j hj1 hj2 => ?_⟩
        rcases Nat.eq_or_lt_of_le (show m + 1 ≤ j from hj1) with rfl | h
        · exact hp'
        · exact h4 j h hj2
theorem up_zero {P : Nat → Bool} {N m : Nat} (h : ∀ j, m < j → j ≤ N → P j = false) : upF P N m = 0 := by
  rcases up_cases P N m with ⟨h1, _⟩ | ⟨h1, h2, h3, _⟩
  · exact h1
  · rw [h _ h1 h2] at h3; cases h3
theorem up_is {P : Nat → Bool} {N m r : Nat} (h1 : m < r) (h2 : r ≤ N) (h3 : P r = true) (h4 : ∀ j, m < j → j < r → P j = false) : upF P N m = r := by
  rcases up_cases P N m with ⟨_, k⟩ | ⟨k1, k2, k3, k4⟩
  · rw [k r h1 h2] at h3; cases h3
  · rcases Nat.lt_trichotomy (upF P N m) r with h | h | h
    · rw [h4 _ k1 h] at k3; cases k3
    · exact h
    · rw [k4 _ h1 h] at h3; cases h3
theorem up_congr {P Q : Nat → Bool} {N m : Nat} (h : ∀ j, m < j → j ≤ N → P j = Q j) : upF P N m = upF Q N m := by
  rcases up_cases Q N m with ⟨k1, k2⟩ | ⟨k1, k2, k3, k4⟩
  · rw [k1]; exact up_zero fun j h1 h2 => (h j h1 h2).trans (k2 j h1 h2)
  · exact up_is k1 k2 ((h _ k1 k2).trans k3) fun j h1 h2 => (h j h1 (by omega)).trans (k4 j h1 h2)
theorem up_skip {P : Nat → Bool} {N a b : Nat} (hab : a ≤ b) (h : ∀ j, a < j → j ≤ b → P j = false) : upF P N a = upF P N b := by
  rcases up_cases P N b with ⟨k1, k2⟩ | ⟨k1, k2, k3, k4⟩
  · rw [k1]
    refine up_zero fun j h1 h2 => ?_
    rcases Nat.lt_or_ge b j with hj | hj
    · exact k2 j hj h2
    · exact h j h1 hj
  · refine up_is (by omega) k2 k3 fun j h1 h2 => ?_
    rcases Nat.lt_or_ge b j with hj | hj
    · exact k4 j hj h2
    · exact h j h1 hj
theorem fwd_up (P : Nat → Bool) (N m : Nat) : fwdL P N m = if upF P N m = 0 then [] else upF P N m :: fwdL P N (upF P N m) := by
  obtain ⟨d, hd⟩ : ∃ d, N - m = d := ⟨_, rfl⟩
  induction d generalizing m with
  | zero => rw [up_none (by omega), if_pos rfl, fwd_none (by omega)]
  | succ d ih =>
    rw [up_rec (show m < N by omega), fwd_rec (show m < N by omega)]
    by_cases hp : P (m + 1) = true
    · rw [if_pos hp, if_pos hp, if_neg (by omega)]
    · rw [if_neg hp, if_neg hp]
      exact ih (m + 1) (by omega)
theorem ch_up {P : Nat → Bool} {N : Nat} {f : Nat → Nat} (hf : ∀ m, 1 ≤ m → m ≤ N → P m = true → f m = upF P N m) (a : Nat) : Ch f (upF P N a) (fwdL P N a) := by
  obtain ⟨d, hd⟩ : ∃ d, N - a = d := ⟨_, rfl⟩
  induction d using Nat.strongRecOn generalizing a with
  | ind d ih =>
    rw [fwd_up]
    rcases up_cases P N a with ⟨h1, _⟩ | ⟨h1, h2, h3, _⟩
    · rw [h1, if_pos rfl]; rfl
    · rw [if_neg (by omega)]
      refine ⟨rfl, by omega, ?_⟩
      rw [hf _ (by omega) h2 h3]
      exact ih (N - upF P N a) (by omega) _ rfl
theorem dn_cases (P : Nat → Bool) (b : Nat) : (dnF P b = 0 ∧ ∀ j, 1 ≤ j → j < b → P j = false) ∨ (1 ≤ dnF P b ∧ dnF P b < b ∧ P (dnF P b) = true ∧ ∀ j, dnF P b < j → j < b → P j = false) := by
  induction b with
  | zero => exact .inl ⟨rfl, fun j h1 h2 => by omega⟩
  | succ b ih =>
    rw [dnF]
    by_cases hp : b ≠ 0 ∧ P b = true
    · rw [if_pos hp]
      exact .inr ⟨by omega, by omega, hp.2, fun j h1 h2 => by omega⟩
    · rw [if_neg hp]
      have hp' : b ≠ 0 → P b = false := fun h => by
        cases e : P b
        · rfl
        · exact absurd ⟨h, e⟩ hp
      rcases ih with ⟨h1, h2⟩ | ⟨h1, h2, h3, h4⟩
      · refine .inl ⟨h1, fun j hj1 hj2 => ?_⟩
        rcases Nat.eq_or_lt_of_le (show j ≤ b by omega) with rfl | h
        · exact hp' (by omega)
        · exact h2 j hj1 h
      · refine .inr ⟨h1, by omega, h3, fun j hj1 hj2 => ?_⟩
        rcases Nat.eq_or_lt_of_le (show j ≤ b by omega) with rfl | h
        · exact hp' (by omega)
        · exact h4 j hj1 h
theorem dn_zero {P : Nat → Bool} {b : Nat} (h : ∀ j, 1 ≤ j → j < b → P j = false) : dnF P b = 0 := by
  rcases dn_cases P b with ⟨h1, _⟩ | ⟨h1, h2, h3, _⟩
  · exact h1
  · rw [h _ h1 h2] at h3; cases h3
theorem dn_is {P : Nat → Bool} {b r : Nat} (h1 : 1 ≤ r) (h2 : r < b) (h3 : P r = true) (h4 : ∀ j, r < j → j < b → P j = false) : dnF P b = r := by
  rcases dn_cases P b with ⟨_, k⟩ | ⟨k1, k2, k3, k4⟩
  · rw [k r h1 h2] at h3; cases h3
  · rcases Nat.lt_trichotomy (dnF P b) r with h | h | h
    · rw [k4 _ h h2] at h3; cases h3
    · exact h
    · rw [h4 _ h k2] at k3; cases k3
theorem dn_congr {P Q : Nat → Bool} {b : Nat} (h : ∀ j, 1 ≤ j → j < b → P j = Q j) : dnF P b = dnF Q b := by
  rcases dn_cases Q b with ⟨k1, k2⟩ | ⟨k1, k2, k3, k4⟩
  · rw [k1]; exact dn_zero fun j h1 h2 => (h j h1 h2).trans (k2 j h1 h2)
  · exact dn_is k1 k2 ((h _ k1 k2).trans k3) fun j h1 h2 => (h j (by omega) h2).trans (k4 j h1 h2)
theorem dn_skip {P : Nat → Bool} {a b : Nat} (hab : a ≤ b) (h : ∀ j, a ≤ j → j < b → P j = false) : dnF P b = dnF P a := by
  rcases dn_cases P a with ⟨k1, k2⟩ | ⟨k1, k2, k3, k4⟩
  · rw [k1]
    refine dn_zero fun j h1 h2 => ?_
    rcases Nat.lt_or_ge j a with hj | hj
    · exact k2 j h1 hj
    · exact h j hj h2
  · refine dn_is k1 (by omega) k3 fun j h1 h2 => ?_
    rcases Nat.lt_or_ge j a with hj | hj
    · exact k4 j h1 hj
    · exact h j hj h2
theorem ch_dn {P : Nat → Bool} {f : Nat → Nat} {B : Nat} (hf : ∀ m, 1 ≤ m → m < B → P m = true → f m = dnF P m) : ∀ b, b ≤ B → Ch f (dnF P b) (bwdL P b)
  | 0, _ => rfl
  | b + 1, h => by
    rw [dnF, bwdL]
    by_cases hp : b ≠ 0 ∧ P b = true
    · rw [if_pos hp, if_pos hp]
      refine ⟨rfl, hp.1, ?_⟩
      rw [hf b (by omega) (by omega) hp.2]
      exact ch_dn hf b (by omega)
    · rw [if_neg hp, if_neg hp]
      exact ch_dn hf b (by omega)
theorem fwd_mem {P : Nat → Bool} {N a m : Nat} : m ∈ fwdL P N a ↔ a < m ∧ m ≤ N ∧ P m = true := by
  unfold fwdL
  rw [List.mem_filter, List.mem_range'_1]
  constructor
  · rintro ⟨h, h2⟩; exact ⟨by omega, by omega, h2⟩
  · rintro ⟨h, h2, h3⟩; exact ⟨by omega, h3⟩
theorem bwd_mem {P : Nat → Bool} {m : Nat} : ∀ {b : Nat}, m ∈ bwdL P b ↔ 1 ≤ m ∧ m < b ∧ P m = true
  | 0 => by simp [bwdL]
  | b + 1 => by
    rw [bwdL]
    split
    · rename_i h
      rw [List.mem_cons, bwd_mem (b := b)]
      constructor
      · rintro (rfl | ⟨h1, h2, h3⟩)
        · exact ⟨by omega, by omega, h.2⟩
        · exact ⟨h1, by omega, h3⟩
      · rintro ⟨h1, h2, h3⟩
        rcases Nat.eq_or_lt_of_le (show m ≤ b by omega) with rfl | h'
        · exact .inl rfl
        · exact .inr ⟨h1, h', h3⟩
    · rename_i h
      rw [bwd_mem (b := b)]
      constructor
      · rintro ⟨h1, h2, h3⟩; exact ⟨h1, by omega, h3⟩
      · rintro ⟨h1, h2, h3⟩
        rcases Nat.eq_or_lt_of_le (show m ≤ b by omega) with rfl | h'
        · exact absurd ⟨by omega, h3⟩ h
        · exact ⟨h1, h', h3⟩
/-- Nodes by their numbers: kinds, parents, ends. -/
structure Ord (N : Nat) (kd : Nat → Int) (pr en : Nat → Nat) : Prop where
  out : ∀ n, (n = 0 ∨ N < n) → kd n = 0 ∧ pr n = 0 ∧ en n = 0
  k0 : ∀ n, 1 ≤ n → n ≤ N → kd n ≠ 0
  plt : ∀ n, 1 ≤ n → n ≤ N → pr n < n
  enr : ∀ n, 1 ≤ n → n ≤ N → n ≤ en n ∧ en n ≤ N
  nest : ∀ n m, 1 ≤ n → n < m → m ≤ N → (m ≤ en n ↔ (n ≤ pr m ∧ pr m ≤ en n)) ∧ (m ≤ en n → en m ≤ en n)
  att : ∀ m, 1 ≤ m → m ≤ N → kd m = 3 → en m = m ∧ (pr m = 0 ∨ ∀ j, pr m < j → j ≤ m → kd j = 3 ∧ pr j = pr m)
section
variable {N : Nat} {kd : Nat → Int} {pr en : Nat → Nat}
theorem Ord.kid (h : Ord N kd pr en) {n j : Nat} (hn : 1 ≤ n) (hj : 1 ≤ j) (hjN : j ≤ N) (hp : pr j = n) : n < j ∧ j ≤ en n := by
  have h1 := h.plt j hj hjN
  have h2 := (h.nest n j hn (by omega) hjN).1
  have h3 := h.enr n hn (by omega)
  exact ⟨by omega, h2.2 ⟨by omega, by omega⟩⟩
/-- What goes from number to number. -/
def innerF (kd : Nat → Int) (en : Nat → Nat) (n m : Nat) : Nat := upF (fun j => decide (kd j ≠ 3)) (en n) m
def attrF (kd : Nat → Int) (en : Nat → Nat) (n m : Nat) : Nat := if m = en n ∨ kd (m + 1) ≠ 3 then 0 else m + 1
def afterF (kd : Nat → Int) (pr en : Nat → Nat) (m : Nat) : Nat := if kd m = 3 ∨ en (pr m) < en m + 1 then 0 else en m + 1
def lastF (pr : Nat → Nat) (p : Nat) : Nat → Nat → Nat
  | 0, q => q
  | f + 1, q => if q = p ∨ pr q = p then q else lastF pr p f (pr q)
def beforeF (kd : Nat → Int) (pr : Nat → Nat) (m : Nat) : Nat :=
  if pr m = 0 then 0 else if lastF pr (pr m) m (m - 1) = pr m ∨ kd (lastF pr (pr m) m (m - 1)) = 3 then 0 else lastF pr (pr m) m (m - 1)
theorem inner_up (_h : Ord N kd pr en) {n m : Nat} (hn : 1 ≤ n) (hnN : n ≤ N) (hm : n ≤ m) : innerF kd en n m = upF (fun j => decide (n < j ∧ j ≤ en n ∧ kd j ≠ 3)) N m := by
  have he := _h.enr n hn hnN
  unfold innerF
  rcases up_cases (fun j => decide (kd j ≠ 3)) (en n) m with ⟨k1, k2⟩ | ⟨k1, k2, k3, k4⟩
  · rw [k1]
    refine (up_zero fun j h1 h2 => ?_).symm
    rcases Nat.lt_or_ge (en n) j with hj | hj
    · simp; omega
    · have := k2 j h1 hj
      simp at this
      simp [this]
  · obtain ⟨r, hr⟩ : ∃ r, upF (fun j => decide (kd j ≠ 3)) (en n) m = r := ⟨_, rfl⟩
    rw [hr] at k1 k2 k3 k4 ⊢
    refine (up_is k1 (by omega) ?_ fun j h1 h2 => ?_).symm
    · simp at k3 ⊢; exact ⟨by omega, k2, k3⟩
    · have := k4 j h1 h2
      simp at this
      simp [this]
theorem inner_kid (h : Ord N kd pr en) {n : Nat} (hn : 1 ≤ n) (hnN : n ≤ N) : innerF kd en n n = upF (fun j => decide (pr j = n ∧ kd j ≠ 3)) N 0 := by
  have he := h.enr n hn hnN
  unfold innerF
  rcases up_cases (fun j => decide (kd j ≠ 3)) (en n) n with ⟨k1, k2⟩ | ⟨k1, k2, k3, k4⟩
  · rw [k1]
    refine (up_zero fun j h1 h2 => ?_).symm
    simp only [decide_eq_false_iff_not]
    rintro ⟨h3, h4⟩
    have h5 := h.kid hn h1 h2 h3
    have := k2 j h5.1 h5.2
    simp [h4] at this
  · obtain ⟨r, hr⟩ : ∃ r, upF (fun j => decide (kd j ≠ 3)) (en n) n = r := ⟨_, rfl⟩
    rw [hr] at k1 k2 k3 k4 ⊢
    have hrN : r ≤ N := by omega
    have hp := (h.nest n r hn k1 hrN).1.1 k2
    have hpl := h.plt r (by omega) hrN
    have hpn : pr r = n := by
      rcases Nat.eq_or_lt_of_le hp.1 with h' | h'
      · exact h'.symm
      · have h3 := k4 (pr r) h' hpl
        simp at h3
        have h4 := (h.att (pr r) (by omega) (by omega) h3).1
        have h5 := (h.nest (pr r) r (by omega) hpl hrN).1.2 ⟨Nat.le_refl _, by omega⟩
        omega
    refine (up_is (by omega) hrN ?_ fun j h1 h2 => ?_).symm
    · simp at k3 ⊢; exact ⟨hpn, k3⟩
    · simp only [decide_eq_false_iff_not]
      rintro ⟨h3, h4⟩
      have h5 := h.kid hn (by omega) (by omega) h3
      have := k4 j h5.1 h2
      simp [h4] at this
theorem after_up (h : Ord N kd pr en) {n m : Nat} (hm : 1 ≤ m) (hmN : m ≤ N) (hn : 1 ≤ n) (hp : pr m = n) (hk : kd m ≠ 3) : afterF kd pr en m = upF (fun j => decide (pr j = n ∧ kd j ≠ 3)) N m := by
  have hnm := h.kid hn hm hmN hp
  have hem := h.enr m hm hmN
  have hen := h.enr n hn (by omega)
  have none : ∀ j, m < j → j ≤ en m → ¬ (pr j = n ∧ kd j ≠ 3) := by
    rintro j h1 h2 ⟨h3, _⟩
    have := (h.nest m j hm h1 (by omega)).1.1 h2
    omega
  unfold afterF
  rw [hp]
  by_cases hx : en n < en m + 1
  · rw [if_pos (.inr hx)]
    refine (up_zero fun j h1 h2 => ?_).symm
    simp only [decide_eq_false_iff_not]
    intro h3
    have := h.kid hn (by omega) h2 h3.1
    exact none j h1 (by omega) h3
  · rw [if_neg (by rintro (h' | h') <;> contradiction)]
    have hN : en m + 1 ≤ N := by omega
    have hpl := h.plt (en m + 1) (by omega) hN
    have h1 := (h.nest n (en m + 1) hn (by omega) hN).1.1 (by omega)
    have hpn : pr (en m + 1) = n := by
      rcases Nat.eq_or_lt_of_le h1.1 with h' | h'
      · exact h'.symm
      · rcases Nat.lt_or_ge (pr (en m + 1)) m with h2 | h2
        · have hq := h.enr (pr (en m + 1)) (by omega) (by omega)
          have h3 := (h.nest (pr (en m + 1)) (en m + 1) (by omega) hpl hN).1.2 ⟨Nat.le_refl _, hq.1⟩
          have h4 := (h.nest (pr (en m + 1)) m (by omega) h2 hmN).1.1 (by omega)
          omega
        · have := (h.nest m (en m + 1) hm (by omega) hN).1.2 ⟨h2, by omega⟩
          omega
    refine (up_is (by omega) hN ?_ fun j h2 h3 => ?_).symm
    · simp only [decide_eq_true_eq]
      refine ⟨hpn, fun h3 => ?_⟩
      rcases (h.att _ (by omega) hN h3).2 with h4 | h4
      · omega
      · exact hk (h4 m (by omega) (by omega)).1
    · simp only [decide_eq_false_iff_not]
      exact none j h2 (by omega)
theorem attr_up (h : Ord N kd pr en) {n m : Nat} (hn : 1 ≤ n) (hnN : n ≤ N) (hm : m = n ∨ (pr m = n ∧ kd m = 3 ∧ 1 ≤ m ∧ m ≤ N)) : attrF kd en n m = upF (fun j => decide (pr j = n ∧ kd j = 3)) N m := by
  have hen := h.enr n hn hnN
  have hr : n ≤ m ∧ m ≤ en n := by
    rcases hm with rfl | ⟨h1, _, h2, h3⟩
    · omega
    · have := h.kid hn h2 h3 h1; omega
  unfold attrF
  by_cases hx : m = en n ∨ kd (m + 1) ≠ 3
  · rw [if_pos hx]
    refine (up_zero fun j h1 h2 => ?_).symm
    simp only [decide_eq_false_iff_not]
    rintro ⟨h3, h4⟩
    have h5 := h.kid hn (by omega) h2 h3
    rcases hx with hx | hx
    · omega
    · rcases (h.att j (by omega) h2 h4).2 with h6 | h6
      · omega
      · exact hx (h6 (m + 1) (by omega) (by omega)).1
  · rw [if_neg hx]
    have hx' : m ≠ en n ∧ kd (m + 1) = 3 := ⟨fun e => hx (.inl e), by
      by_cases e : kd (m + 1) = 3
      · exact e
      · exact absurd (.inr e) hx⟩
    have hN : m + 1 ≤ N := by omega
    have hpl := h.plt (m + 1) (by omega) hN
    have h1 := (h.nest n (m + 1) hn (by omega) hN).1.1 (by omega)
    have hpn : pr (m + 1) = n := by
      rcases Nat.eq_or_lt_of_le h1.1 with h' | h'
      · exact h'.symm
      · rcases hm with rfl | ⟨k1, k2, k3, k4⟩
        · omega
        · rcases (h.att m k3 k4 k2).2 with h6 | h6
          · omega
          · have h7 := (h6 (pr (m + 1)) (by omega) (by omega)).1
            have h8 := (h.att _ (by omega) (by omega) h7).1
            have h9 := (h.nest (pr (m + 1)) (m + 1) (by omega) hpl hN).1.2 ⟨Nat.le_refl _, by omega⟩
            omega
    refine (up_is (by omega) hN ?_ fun j h2 h3 => by omega).symm
    simp only [decide_eq_true_eq]
    exact ⟨hpn, hx'.2⟩
theorem par_dn (h : Ord N kd pr en) {m : Nat} (hm : 1 ≤ m) (hmN : m ≤ N) : pr m = dnF (fun j => decide (j < m ∧ m ≤ en j)) m := by
  have hpl := h.plt m hm hmN
  by_cases h0 : pr m = 0
  · rw [h0]
    refine (dn_zero fun j h1 h2 => ?_).symm
    simp only [decide_eq_false_iff_not]
    rintro ⟨_, h3⟩
    have := (h.nest j m h1 h2 hmN).1.1 h3
    omega
  · refine (dn_is (by omega) hpl ?_ fun j h1 h2 => ?_).symm
    · simp only [decide_eq_true_eq]
      exact ⟨hpl, (h.nest (pr m) m (by omega) hpl hmN).1.2 ⟨Nat.le_refl _, (h.enr _ (by omega) (by omega)).1⟩⟩
    · simp only [decide_eq_false_iff_not]
      rintro ⟨_, h3⟩
      have := (h.nest j m (by omega) h2 hmN).1.1 h3
      omega
theorem last_spec (h : Ord N kd pr en) {p m : Nat} (hp : 1 ≤ p) (hmN : m ≤ N) (hme : m ≤ en p) (hpm : p < m) : ∀ (f q : Nat), q ≤ f → p ≤ q → q < m → (∀ j, q < j → j < m → pr j ≠ p) →
    p ≤ lastF pr p f q ∧ lastF pr p f q < m ∧ (∀ j, lastF pr p f q < j → j < m → pr j ≠ p) ∧ (lastF pr p f q = p ∨ pr (lastF pr p f q) = p)
  | 0, q, h1, h2, _, _ => by omega
  | f + 1, q, h1, h2, h3, h4 => by
    rw [lastF]
    by_cases hx : q = p ∨ pr q = p
    · rw [if_pos hx]; exact ⟨h2, h3, h4, hx⟩
    · rw [if_neg hx]
      have hq : p < q ∧ pr q ≠ p := ⟨by rcases Nat.eq_or_lt_of_le h2 with e | e; exact absurd (.inl e.symm) hx; exact e, fun e => hx (.inr e)⟩
      have hpl := h.plt q (by omega) (by omega)
      have k1 := (h.nest p q hp hq.1 (by omega)).1.1 (by omega)
      refine last_spec h hp hmN hme hpm f (pr q) (by omega) k1.1 (by omega) fun j j1 j2 j3 => ?_
      rcases Nat.lt_trichotomy j q with e | e | e
      · have k2 := (h.nest (pr q) q (by omega) hpl (by omega)).1.2 ⟨Nat.le_refl _, (h.enr _ (by omega) (by omega)).1⟩
        have k3 := (h.nest (pr q) j (by omega) j1 (by omega)).1.1 (by omega)
        omega
      · subst e; exact hq.2 j3
      · exact h4 j e j2 j3
theorem before_dn (h : Ord N kd pr en) {p m : Nat} (hm : 1 ≤ m) (hmN : m ≤ N) (hp : 1 ≤ p) (hpm : pr m = p) : beforeF kd pr m = dnF (fun j => decide (pr j = p ∧ kd j ≠ 3)) m := by
  have hk := h.kid hp hm hmN hpm
  obtain ⟨l1, l2, l3, l4⟩ := last_spec h hp hmN hk.2 hk.1 m (m - 1) (by omega) (by omega) (by omega) (fun j h1 h2 => by omega)
  unfold beforeF
  rw [hpm, if_neg (by omega)]
  obtain ⟨q, hq⟩ : ∃ q, lastF pr p m (m - 1) = q := ⟨_, rfl⟩
  rw [hq] at l1 l2 l3 l4 ⊢
  by_cases hx : q = p ∨ kd q = 3
  · rw [if_pos hx]
    refine (dn_zero fun j h1 h2 => ?_).symm
    simp only [decide_eq_false_iff_not]
    rintro ⟨h3, h4⟩
    have h5 := h.kid hp h1 (by omega) h3
    rcases Nat.lt_or_ge q j with e | e
    · exact l3 j e h2 h3
    · rcases hx with hx | hx
      · omega
      · rcases l4 with l4 | l4
        · omega
        · rcases (h.att q (by omega) (by omega) hx).2 with h6 | h6
          · omega
          · exact h4 (h6 j (by omega) e).1
  · rw [if_neg hx]
    have h1 : q ≠ p := fun e => hx (.inl e)
    have h2 : kd q ≠ 3 := fun e => hx (.inr e)
    refine (dn_is (by omega) l2 ?_ fun j j1 j2 => ?_).symm
    · simp only [decide_eq_true_eq]
      exact ⟨l4.resolve_left h1, h2⟩
    · simp only [decide_eq_false_iff_not]
      rintro ⟨h3, _⟩
      exact l3 j j1 j2 h3
theorem before_attr (h : Ord N kd pr en) {m : Nat} (hm : 1 ≤ m) (hmN : m ≤ N) (hk : kd m = 3) : beforeF kd pr m = 0 := by
  by_cases h0 : pr m = 0
  · unfold beforeF; rw [if_pos h0]
  · rw [before_dn h hm hmN (show 1 ≤ pr m by omega) rfl]
    refine dn_zero fun j h1 h2 => ?_
    simp only [decide_eq_false_iff_not]
    rintro ⟨h3, h4⟩
    have h5 := h.kid (n := pr m) (by omega) h1 (by omega) h3
    rcases (h.att m hm hmN hk).2 with h6 | h6
    · omega
    · exact h4 (h6 j h5.1 (by omega)).1
/-- Is m on the axis a of n? -/
def axP (kd : Nat → Int) (pr en : Nat → Nat) (n : Nat) (a : Int) (m : Nat) : Bool :=
  if a = 1 then decide (pr m = n ∧ kd m ≠ 3)
  else if a = 2 then decide (n < m ∧ m ≤ en n ∧ kd m ≠ 3)
  else if a = 3 then decide (pr m = n ∧ kd m = 3)
  else if a = 4 then decide (m = n)
  else if a = 5 then decide (m = n ∨ (n < m ∧ m ≤ en n ∧ kd m ≠ 3))
  else if a = 6 then decide ((pr n ≠ 0 ∧ pr m = pr n ∧ kd n ≠ 3 ∧ kd m ≠ 3) ∧ n < m)
  else if a = 7 then decide (pr n = m)
  else if a = 8 then decide (m < n ∧ n ≤ en m)
  else if a = 9 then decide ((pr n ≠ 0 ∧ pr m = pr n ∧ kd n ≠ 3 ∧ kd m ≠ 3) ∧ m < n)
  else if a = 10 then decide (m = n ∨ (m < n ∧ n ≤ en m))
  else false
/-- The axis a of n. -/
def axL (N : Nat) (kd : Nat → Int) (pr en : Nat → Nat) (n : Nat) (a : Int) : List Nat :=
  if n = 0 ∨ N < n then [] else if a = 8 ∨ a = 9 ∨ a = 10 then bwdL (axP kd pr en n a) (N + 1) else fwdL (axP kd pr en n a) N 0
theorem ch_child (h : Ord N kd pr en) {n : Nat} (h1 : 1 ≤ n) (h2 : n ≤ N) : Ch (afterF kd pr en) (innerF kd en n n) (axL N kd pr en n 1) := by
  rw [axL, if_neg (by omega), if_neg (by decide), inner_kid h h1 h2]
  exact ch_up (P := axP kd pr en n 1) (fun m m1 m2 hm => by
    have hm' : pr m = n ∧ kd m ≠ 3 := by simpa [axP] using hm
    rw [after_up h m1 m2 h1 hm'.1 hm'.2]; rfl) 0
theorem ch_desc (h : Ord N kd pr en) {n : Nat} (h1 : 1 ≤ n) (h2 : n ≤ N) : Ch (innerF kd en n) (innerF kd en n n) (axL N kd pr en n 2) := by
  rw [axL, if_neg (by omega), if_neg (by decide), inner_up h h1 h2 (Nat.le_refl _)]
  rw [← up_skip (P := fun j => decide (n < j ∧ j ≤ en n ∧ kd j ≠ 3)) (a := 0) (Nat.zero_le n) (fun j _ h3 => by simp; omega)]
  exact ch_up (P := axP kd pr en n 2) (fun m m1 m2 hm => by
    have hm' : n < m ∧ m ≤ en n ∧ kd m ≠ 3 := by simpa [axP] using hm
    rw [inner_up h h1 h2 (by omega)]; rfl) 0
theorem ch_attr (h : Ord N kd pr en) {n : Nat} (h1 : 1 ≤ n) (h2 : n ≤ N) : Ch (attrF kd en n) (attrF kd en n n) (axL N kd pr en n 3) := by
  rw [axL, if_neg (by omega), if_neg (by decide), attr_up h h1 h2 (.inl rfl)]
  rw [← up_skip (P := fun j => decide (pr j = n ∧ kd j = 3)) (a := 0) (Nat.zero_le n) (fun j j1 j2 => by
    simp only [decide_eq_false_iff_not]
    rintro ⟨h3, _⟩
    have := h.kid h1 j1 (by omega) h3
    omega)]
  exact ch_up (P := axP kd pr en n 3) (fun m m1 m2 hm => by
    have hm' : pr m = n ∧ kd m = 3 := by simpa [axP] using hm
    rw [attr_up h h1 h2 (.inr ⟨hm'.1, hm'.2, m1, m2⟩)]; rfl) 0
theorem ch_self {n : Nat} (h1 : 1 ≤ n) (h2 : n ≤ N) : Ch (fun _ => 0) n (axL N kd pr en n 4) := by
  rw [axL, if_neg (by omega), if_neg (by decide)]
  have e : n = upF (axP kd pr en n 4) N 0 := (up_is (by omega) h2 (by simp [axP]) (fun j _ h => by simp [axP]; omega)).symm
  have := ch_up (P := axP kd pr en n 4) (N := N) (f := fun _ => 0) (fun m m1 m2 hm => by
    have hm' : m = n := by simpa [axP] using hm
    exact (up_zero fun j h3 _ => by simp [axP]; omega).symm) 0
  rwa [← e] at this
theorem ch_descSelf (h : Ord N kd pr en) {n : Nat} (h1 : 1 ≤ n) (h2 : n ≤ N) : Ch (innerF kd en n) n (axL N kd pr en n 5) := by
  rw [axL, if_neg (by omega), if_neg (by decide)]
  have e : n = upF (axP kd pr en n 5) N 0 := (up_is (by omega) h2 (by simp [axP]) (fun j _ h => by simp [axP]; omega)).symm
  have := ch_up (P := axP kd pr en n 5) (N := N) (f := innerF kd en n) (fun m m1 m2 hm => by
    have hm' : m = n ∨ (n < m ∧ m ≤ en n ∧ kd m ≠ 3) := by simpa [axP] using hm
    rw [inner_up h h1 h2 (by omega)]
    exact up_congr fun j j1 _ => by
      have : j ≠ n := by omega
      simp [axP, this]) 0
  rwa [← e] at this
theorem ch_foll (h : Ord N kd pr en) {n : Nat} (h1 : 1 ≤ n) (h2 : n ≤ N) : Ch (afterF kd pr en) (afterF kd pr en n) (axL N kd pr en n 6) := by
  rw [axL, if_neg (by omega), if_neg (by decide)]
  have e : afterF kd pr en n = upF (axP kd pr en n 6) N 0 := by
    rw [up_skip (Nat.zero_le n) (fun j _ h3 => by simp [axP]; omega)]
    by_cases hk : kd n = 3
    · rw [up_zero (fun j _ _ => by simp [axP, hk])]
      unfold afterF; rw [if_pos (.inl hk)]
    · by_cases hp : pr n = 0
      · rw [up_zero (fun j _ _ => by simp [axP, hp])]
        unfold afterF
        rw [hp, (h.out 0 (.inl rfl)).2.2, if_pos (.inr (by omega))]
      · rw [after_up h h1 h2 (show 1 ≤ pr n by omega) rfl hk]
        exact up_congr fun j j1 _ => by simp [axP, hk, hp, j1]
  rw [e]
  exact ch_up (P := axP kd pr en n 6) (fun m m1 m2 hm => by
    have hm' : (pr n ≠ 0 ∧ pr m = pr n ∧ kd n ≠ 3 ∧ kd m ≠ 3) ∧ n < m := by simpa [axP] using hm
    obtain ⟨⟨k1, k2, k3, k4⟩, k5⟩ := hm'
    rw [after_up h m1 m2 (show 1 ≤ pr n by omega) k2 k4]
    exact up_congr fun j j1 _ => by
      have : n < j := by omega
      simp [axP, k1, k3, this]) 0
theorem ch_par (h : Ord N kd pr en) {n : Nat} (h1 : 1 ≤ n) (h2 : n ≤ N) : Ch (fun _ => 0) (pr n) (axL N kd pr en n 7) := by
  rw [axL, if_neg (by omega), if_neg (by decide)]
  have hpl := h.plt n h1 h2
  have e : pr n = upF (axP kd pr en n 7) N 0 := by
    by_cases h0 : pr n = 0
    · rw [up_zero (fun j j1 _ => by simp [axP]; omega)]; exact h0
    · exact (up_is (by omega) (by omega) (by simp [axP]) (fun j _ h => by simp [axP]; omega)).symm
  have := ch_up (P := axP kd pr en n 7) (N := N) (f := fun _ => 0) (fun m m1 m2 hm => by
    have hm' : pr n = m := by simpa [axP] using hm
    exact (up_zero fun j h3 _ => by simp [axP]; omega).symm) 0
  rwa [← e] at this
theorem anc_step (h : Ord N kd pr en) {n m j : Nat} (h2 : n ≤ N) (hj : 1 ≤ j) (hjm : j < m) (hm : m = n ∨ (m < n ∧ n ≤ en m)) : (j < n ∧ n ≤ en j) ↔ (j < m ∧ m ≤ en j) := by
  rcases hm with rfl | ⟨k1, k2⟩
  · exact Iff.rfl
  · constructor
    · rintro ⟨_, h4⟩; exact ⟨hjm, by omega⟩
    · rintro ⟨_, h4⟩
      have := (h.nest j m hj hjm (by omega)).2 h4
      exact ⟨by omega, by omega⟩
theorem ch_anc (h : Ord N kd pr en) {n : Nat} (h1 : 1 ≤ n) (h2 : n ≤ N) : Ch pr (pr n) (axL N kd pr en n 8) := by
  rw [axL, if_neg (by omega), if_pos (by decide)]
  have e : pr n = dnF (axP kd pr en n 8) (N + 1) := by
    rw [dn_skip (a := n) (by omega) (fun j j1 _ => by simp [axP]; omega), par_dn h h1 h2]; rfl
  rw [e]
  exact ch_dn (P := axP kd pr en n 8) (B := N + 1) (fun m m1 m2 hm => by
    have hm' : m < n ∧ n ≤ en m := by simpa [axP] using hm
    rw [par_dn h m1 (by omega)]
    exact dn_congr fun j j1 j2 => decide_eq_decide.2 (anc_step h h2 j1 j2 (.inr hm')).symm) (N + 1) (Nat.le_refl _)
theorem ch_prec (h : Ord N kd pr en) {n : Nat} (h1 : 1 ≤ n) (h2 : n ≤ N) : Ch (beforeF kd pr) (beforeF kd pr n) (axL N kd pr en n 9) := by
  rw [axL, if_neg (by omega), if_pos (by decide)]
  have e : beforeF kd pr n = dnF (axP kd pr en n 9) (N + 1) := by
    rw [dn_skip (a := n) (by omega) (fun j j1 _ => by simp [axP]; omega)]
    by_cases hk : kd n = 3
    · rw [before_attr h h1 h2 hk, dn_zero (fun j _ _ => by simp [axP, hk])]
    · by_cases hp : pr n = 0
      · rw [dn_zero (fun j _ _ => by simp [axP, hp])]
        unfold beforeF; rw [if_pos hp]
      · rw [before_dn h h1 h2 (show 1 ≤ pr n by omega) rfl]
        exact dn_congr fun j _ j2 => by simp [axP, hk, hp, j2]
  rw [e]
  exact ch_dn (P := axP kd pr en n 9) (B := N + 1) (fun m m1 m2 hm => by
    have hm' : (pr n ≠ 0 ∧ pr m = pr n ∧ kd n ≠ 3 ∧ kd m ≠ 3) ∧ m < n := by simpa [axP] using hm
    obtain ⟨⟨k1, k2, k3, k4⟩, k5⟩ := hm'
    rw [before_dn h m1 (by omega) (show 1 ≤ pr n by omega) k2]
    exact dn_congr fun j _ j2 => by
      have : j < n := by omega
      simp [axP, k1, k3, this]) (N + 1) (Nat.le_refl _)
theorem ch_ancSelf (h : Ord N kd pr en) {n : Nat} (h1 : 1 ≤ n) (h2 : n ≤ N) : Ch pr n (axL N kd pr en n 10) := by
  rw [axL, if_neg (by omega), if_pos (by decide)]
  have e : n = dnF (axP kd pr en n 10) (N + 1) := (dn_is h1 (by omega) (by simp [axP]) (fun j j1 _ => by simp [axP]; omega)).symm
  have := ch_dn (P := axP kd pr en n 10) (f := pr) (B := N + 1) (fun m m1 m2 hm => by
    have hm' : m = n ∨ (m < n ∧ n ≤ en m) := by simpa [axP] using hm
    rw [par_dn h m1 (by omega)]
    refine dn_congr fun j j1 j2 => decide_eq_decide.2 ?_
    rw [← anc_step h h2 j1 j2 hm']
    constructor
    · exact .inr
    · rintro (rfl | h3)
      · omega
      · exact h3) (N + 1) (Nat.le_refl _)
  rwa [← e] at this
/-- Where an axis begins, and how it goes on. -/
def axF (kd : Nat → Int) (pr en : Nat → Nat) (n : Nat) (a : Int) : Nat :=
  if a = 1 then innerF kd en n n else if a = 2 then innerF kd en n n else if a = 3 then attrF kd en n n else if a = 4 then n else if a = 5 then n else if a = 6 then afterF kd pr en n
  else if a = 7 then pr n else if a = 8 then pr n else if a = 9 then beforeF kd pr n else if a = 10 then n else 0
def axS (kd : Nat → Int) (pr en : Nat → Nat) (n : Nat) (a : Int) : Nat → Nat :=
  if a = 1 then afterF kd pr en else if a = 2 then innerF kd en n else if a = 3 then attrF kd en n else if a = 4 then fun _ => 0 else if a = 5 then innerF kd en n else if a = 6 then afterF kd pr en
  else if a = 7 then fun _ => 0 else if a = 8 then pr else if a = 9 then beforeF kd pr else if a = 10 then pr else fun _ => 0
theorem ch_axis (h : Ord N kd pr en) {n : Nat} (h1 : 1 ≤ n) (h2 : n ≤ N) (a : Int) : Ch (axS kd pr en n a) (axF kd pr en n a) (axL N kd pr en n a) := by
  by_cases e : 1 ≤ a ∧ a ≤ 10
  · have : a = 1 ∨ a = 2 ∨ a = 3 ∨ a = 4 ∨ a = 5 ∨ a = 6 ∨ a = 7 ∨ a = 8 ∨ a = 9 ∨ a = 10 := by omega
    rcases this with rfl | rfl | rfl | rfl | rfl | rfl | rfl | rfl | rfl | rfl
    · exact ch_child h h1 h2
    · exact ch_desc h h1 h2
    · exact ch_attr h h1 h2
    · exact ch_self h1 h2
    · exact ch_descSelf h h1 h2
    · exact ch_foll h h1 h2
    · exact ch_par h h1 h2
    · exact ch_anc h h1 h2
    · exact ch_prec h h1 h2
    · exact ch_ancSelf h h1 h2
  · have hP : axP kd pr en n a = fun _ => false := by
      funext m
      unfold axP
      repeat rw [if_neg (by omega)]
    have hF : axF kd pr en n a = 0 := by
      unfold axF
      repeat rw [if_neg (by omega)]
    rw [hF, axL, if_neg (by omega), if_neg (by omega), hP]
    have e0 : fwdL (fun _ => false) N 0 = [] := by unfold fwdL; simp
    rw [e0]
    exact rfl
end
end Go.Proofs.YtcmlfkoeajpliaaDoor
namespace Go.Proofs.YtcmlfkoeajpliaaDoor
open Go.RowKit Go.Lib
/-- Attributes lie right behind their node, and hold nothing. -/
def NoAt (b : Nat) (M : List En) : Prop := ∀ i x, M[i]? = some x → x.k = 3 → x.e = b + i + 1 ∧ b < x.p ∧ ∀ j y, x.p ≤ b + j → j ≤ i → M[j]? = some y → y.k = 3 ∧ y.p = x.p
def AtOk (b p : Nat) (M : List En) : Prop := ∀ i x, M[i]? = some x → x.k = 3 → x.e = b + i + 1 ∧ (x.p = p ∨ (b < x.p ∧ ∀ j y, x.p ≤ b + j → j ≤ i → M[j]? = some y → y.k = 3 ∧ y.p = x.p))
theorem NoAt.nil (b : Nat) : NoAt b [] := fun i x h => by simp at h
theorem NoAt.app {b : Nat} {M N : List En} (h : NoAt b M) (k : NoAt (b + M.length) N) : NoAt b (M ++ N) := by
  intro i x hx h3
  by_cases hi : i < M.length
  · rw [List.getElem?_append_left hi] at hx
    obtain ⟨h1, h2, h4⟩ := h i x hx h3
    refine ⟨h1, h2, fun j y j1 j2 hy => ?_⟩
    rw [List.getElem?_append_left (by omega)] at hy
    exact h4 j y j1 j2 hy
  · rw [List.getElem?_append_right (by omega)] at hx
    obtain ⟨h1, h2, h4⟩ := k _ x hx h3
    refine ⟨by omega, by omega, fun j y j1 j2 hy => ?_⟩
    rw [List.getElem?_append_right (by omega)] at hy
    exact h4 _ y (by omega) (by omega) hy
theorem NoAt.ok {b : Nat} {M : List En} (p : Nat) (h : NoAt b M) : AtOk b p M := fun i x hx h3 => ⟨(h i x hx h3).1, .inr (h i x hx h3).2⟩
theorem AtOk.app {b p : Nat} {M N : List En} (h : AtOk b p M) (k : AtOk (b + M.length) p N) : AtOk b p (M ++ N) := by
  intro i x hx h3
  by_cases hi : i < M.length
  · rw [List.getElem?_append_left hi] at hx
    obtain ⟨h1, h2⟩ := h i x hx h3
    refine ⟨h1, h2.imp_right fun ⟨h2, h4⟩ => ⟨h2, fun j y j1 j2 hy => ?_⟩⟩
    rw [List.getElem?_append_left (by omega)] at hy
    exact h4 j y j1 j2 hy
  · rw [List.getElem?_append_right (by omega)] at hx
    obtain ⟨h1, h2⟩ := k _ x hx h3
    refine ⟨by omega, h2.imp_right fun ⟨h2, h4⟩ => ⟨by omega, fun j y j1 j2 hy => ?_⟩⟩
    rw [List.getElem?_append_right (by omega)] at hy
    exact h4 _ y (by omega) (by omega) hy
theorem layP_get : ∀ (ps : List (List UInt8 × List UInt8)) (b own i : Nat) (x : En), (layP ps b own)[i]? = some x → x.k = 3 ∧ x.p = own ∧ x.e = b + i + 1
  | [], b, own, i, x, h => by simp [layP] at h
  | a :: ps, b, own, 0, x, h => by
    rw [layP] at h
    simp at h
    subst h
    exact ⟨rfl, rfl, rfl⟩
  | a :: ps, b, own, i + 1, x, h => by
    rw [layP] at h
    rw [List.getElem?_cons_succ] at h
    obtain ⟨h1, h2, h3⟩ := layP_get ps (b + 1) own i x h
    exact ⟨h1, h2, by omega⟩
theorem lay_noat : ∀ (t : PT) (d b p : Nat), t.right d = true → t.k ≠ 3 → NoAt b (t.lay b p) := by
  intro t
  induction t using PT.ind with
  | h k n v ps ks ih =>
    intro d b p hr h3
    rw [PT.right] at hr
    simp only [Bool.and_eq_true] at hr
    obtain ⟨⟨_, hh⟩, hk⟩ := hr
    have aux : ∀ (L : List PT), (∀ t ∈ L, ∀ d b p : Nat, t.right d = true → t.k ≠ 3 → NoAt b (t.lay b p)) → ∀ (d : Nat) (last : Int) (b p : Nat), rightL L d last = true → NoAt b (layL L b p) := by
      intro L
      induction L with
      | nil => intro _ d last b p _; rw [layL]; exact NoAt.nil b
      | cons t L ihL =>
        intro ht d last b p hr
        rw [rightL] at hr
        simp only [Bool.and_eq_true] at hr
        rw [layL]
        have hk3 : t.k ≠ 3 := by
          have := hr.1.1
          unfold kidR at this
          simp at this
          omega
        have h2 := ihL (fun u hu => ht u (.tail _ hu)) d _ (b + t.size) p hr.2
        exact (ht t (.head _) d b p hr.1.2 hk3).app (by rw [lay_len]; exact h2)
    have hks := aux ks ih (d + 1) 0 (b + 1 + ps.length) (b + 1) hk
    rw [PT.lay]
    intro i x hx hx3
    cases i with
    | zero =>
      simp at hx
      subst hx
      exact absurd hx3 h3
    | succ i =>
      rw [List.getElem?_cons_succ] at hx
      by_cases hi : i < ps.length
      · rw [List.getElem?_append_left (by rw [layP_len]; exact hi)] at hx
        obtain ⟨h1, h2, h4⟩ := layP_get ps _ _ _ _ hx
        refine ⟨by omega, by omega, fun j y j1 j2 hy => ?_⟩
        obtain ⟨j, rfl⟩ : ∃ q, j = q + 1 := ⟨j - 1, by omega⟩
        rw [List.getElem?_cons_succ, List.getElem?_append_left (by rw [layP_len]; omega)] at hy
        obtain ⟨k1, k2, _⟩ := layP_get ps _ _ _ _ hy
        exact ⟨k1, by omega⟩
      · rw [List.getElem?_append_right (by rw [layP_len]; omega), layP_len] at hx
        obtain ⟨h1, h2, h4⟩ := hks _ x hx hx3
        refine ⟨by omega, by omega, fun j y j1 j2 hy => ?_⟩
        obtain ⟨j, rfl⟩ : ∃ q, j = q + 1 := ⟨j - 1, by omega⟩
        rw [List.getElem?_cons_succ, List.getElem?_append_right (by rw [layP_len]; omega), layP_len] at hy
        exact h4 _ y (by omega) (by omega) hy
theorem lay_atok (t : PT) (d b p : Nat) (hr : t.right d = true) : AtOk b p (t.lay b p) := by
  by_cases h3 : t.k = 3
  · obtain ⟨k, n, v, ps, ks⟩ := t
    rw [PT.k] at h3
    subst h3
    rw [PT.right] at hr
    simp only [Bool.and_eq_true] at hr
    have hh := hr.1.2
    unfold headR at hh
    simp at hh
    obtain ⟨⟨_, hps⟩, hks⟩ := hh
    subst hps
    subst hks
    rw [PT.lay, layL]
    intro i x hx _
    cases i with
    | zero =>
      simp [layP] at hx
      subst hx
      exact ⟨by show b + (1 + 0 + sizeL []) = _; rw [sizeL], .inl rfl⟩
    | succ i => simp [layP] at hx
  · exact (lay_noat t d b p hr h3).ok p
theorem layL_atok : ∀ (L : List PT) (b : Nat), (∀ t ∈ L, t.right 0 = true) → AtOk b 0 (layL L b 0)
  | [], b, _ => by rw [layL]; exact (NoAt.nil b).ok 0
  | t :: L, b, h => by
    rw [layL]
    exact (lay_atok t 0 b 0 (h t (.head _))).app (by rw [lay_len]; exact layL_atok L _ fun u hu => h u (.tail _ hu))
theorem layL_nest : ∀ (L : List PT) (b : Nat), (∀ t ∈ L, t.right 0 = true) → Nest b 0 (layL L b 0)
  | [], b, _ => by rw [layL]; exact Nest.nil b 0
  | t :: L, b, h => by
    rw [layL]
    exact (nest_lay t 0 b 0 (h t (.head _)) (Nat.zero_le _)).app (by rw [lay_len]; exact layL_nest L _ fun u hu => h u (.tail _ hu)) (Nat.zero_le _)
/-- What is told of a number: of none 0. -/
def kdN (L : List En) (n : Nat) : Int := if n = 0 then 0 else ((L[n - 1]?).map En.k).getD 0
def prN (L : List En) (n : Nat) : Nat := if n = 0 then 0 else ((L[n - 1]?).map En.p).getD 0
def enN (L : List En) (n : Nat) : Nat := if n = 0 then 0 else ((L[n - 1]?).map En.e).getD 0
theorem told_in {L : List En} {n : Nat} (h1 : 1 ≤ n) (h2 : n ≤ L.length) : ∃ x, L[n - 1]? = some x ∧ kdN L n = x.k ∧ prN L n = x.p ∧ enN L n = x.e := by
  have hx : L[n - 1]? = some (L[n - 1]'(by omega)) := List.getElem?_eq_getElem (by omega)
  refine ⟨_, hx, ?_, ?_, ?_⟩
  · unfold kdN; rw [if_neg (by omega), hx]; rfl
  · unfold prN; rw [if_neg (by omega), hx]; rfl
  · unfold enN; rw [if_neg (by omega), hx]; rfl
theorem told_out {L : List En} {n : Nat} (h : n = 0 ∨ L.length < n) : kdN L n = 0 ∧ prN L n = 0 ∧ enN L n = 0 := by
  rcases h with rfl | h
  · exact ⟨rfl, rfl, rfl⟩
  · have hx : L[n - 1]? = none := List.getElem?_eq_none (by omega)
    refine ⟨?_, ?_, ?_⟩
    · unfold kdN; rw [if_neg (by omega), hx]; rfl
    · unfold prN; rw [if_neg (by omega), hx]; rfl
    · unfold enN; rw [if_neg (by omega), hx]; rfl
theorem ord_of {L : List En} (h : Nest 0 0 L) (k : AtOk 0 0 L) : Ord L.length (kdN L) (prN L) (enN L) := by
  refine ⟨fun n hn => told_out hn, fun n h1 h2 => ?_, fun n h1 h2 => ?_, fun n h1 h2 => ?_, fun n m h1 hnm h2 => ?_, fun m h1 h2 h3 => ?_⟩
  · obtain ⟨x, hx, e1, _, _⟩ := told_in h1 h2
    rw [e1]; exact (h.one _ x hx).1
  · obtain ⟨x, hx, _, e2, _⟩ := told_in h1 h2
    have := (h.one _ x hx).2.1
    omega
  · obtain ⟨x, hx, _, _, e3⟩ := told_in h1 h2
    have := (h.one _ x hx).2.2
    omega
  · obtain ⟨x, hx, _, _, e3⟩ := told_in h1 (show n ≤ L.length by omega)
    obtain ⟨y, hy, _, f2, f3⟩ := told_in (show 1 ≤ m by omega) h2
    have := h.two (n - 1) (m - 1) x y (by omega) hx hy
    rw [e3, f2, f3]
    rw [show 0 + (m - 1) + 1 = m by omega, show 0 + (n - 1) + 1 = n by omega] at this
    exact this
  · obtain ⟨x, hx, e1, e2, e3⟩ := told_in h1 h2
    obtain ⟨k1, k2⟩ := k _ x hx (by rw [← e1]; exact h3)
    refine ⟨by omega, ?_⟩
    rcases k2 with k2 | ⟨k2, k3⟩
    · exact .inl (by omega)
    · refine .inr fun j j1 j2 => ?_
      obtain ⟨y, hy, f1, f2, _⟩ := told_in (show 1 ≤ j by omega) (show j ≤ L.length by omega)
      have := k3 (j - 1) y (by omega) (by omega) hy
      rw [f1, f2, e2]
      exact this
end Go.Proofs.YtcmlfkoeajpliaaDoor
