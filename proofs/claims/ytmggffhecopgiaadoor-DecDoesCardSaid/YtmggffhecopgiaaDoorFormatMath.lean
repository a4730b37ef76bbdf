/- Plain facts on the text of a number. No condition beyond what the theorems state. -/
import Derived.Test.YtmggffhecopgiaaDoorRefFit
namespace Go.Proofs
open Go.Shelf Go.RowKit Go.Proofs.Wide Go.Proofs.Dig
/-- A decimal digit's character. -/
def chD (d : Int) : UInt8 := UInt8.ofNat (48 + d.toNat)
/-- The first j digits (the lowest first) as text, the point put in. -/
def fmtN (P : List Int) (k : Nat) : Nat → List UInt8
  | 0 => []
  | j + 1 => chD (P.getD j 0) :: (if j = k ∧ 0 < k then 46 :: fmtN P k j else fmtN P k j)
def padD (l : List Int) (k : Nat) : List Int := l ++ List.replicate (k + 1 - l.length) 0
theorem fmtN_le (P : List Int) (k : Nat) : ∀ j, j ≤ k → j ≤ P.length → fmtN P k j = (P.take j).reverse.map chD := by
  intro j
  induction j with
  | zero => intro _ _; rfl
  | succ j ih =>
    intro h1 h2
    have : P.take (j + 1) = P.take j ++ [P.getD j 0] := by
      rw [List.take_add_one, List.getD_eq_getElem?_getD, List.getElem?_eq_getElem (by omega)]; rfl
    rw [fmtN, if_neg (by omega), ih (by omega) (by omega), this, List.reverse_append]; rfl
theorem fmtN_gt (P : List Int) (k : Nat) (hk : 0 < k) : ∀ j, k < j → j ≤ P.length → fmtN P k j = ((P.take j).drop k).reverse.map chD ++ [46] ++ (P.take k).reverse.map chD := by
  intro j
  induction j with
  | zero => intro h; omega
  | succ j ih =>
    intro h1 h2
    have e : P.take (j + 1) = P.take j ++ [P.getD j 0] := by
      rw [List.take_add_one, List.getD_eq_getElem?_getD, List.getElem?_eq_getElem (by omega)]; rfl
    have e2 : (P.take (j + 1)).drop k = (P.take j).drop k ++ [P.getD j 0] := by
      rw [e, List.drop_append]
      have : (List.take j P).length = j := by rw [List.length_take]; omega
      rw [show k - (List.take j P).length = 0 by omega]; rfl
    rw [fmtN, e2, List.reverse_append]
    by_cases hj : j = k
    · subst hj
      rw [if_pos ⟨rfl, hk⟩, fmtN_le P j j (Nat.le_refl _) (by omega)]
      have : (List.take j P).drop j = [] := by rw [List.drop_eq_nil_iff, List.length_take]; omega
      rw [this]; simp
    · rw [if_neg (by omega), ih (by omega) (by omega)]; simp
theorem fmtN_zero (P : List Int) : ∀ j, j ≤ P.length → fmtN P 0 j = (P.take j).reverse.map chD := by
  intro j
  induction j with
  | zero => intro _; rfl
  | succ j ih =>
    intro h2
    have : P.take (j + 1) = P.take j ++ [P.getD j 0] := by
      rw [List.take_add_one, List.getD_eq_getElem?_getD, List.getElem?_eq_getElem (by omega)]; rfl
    rw [fmtN, if_neg (by omega), ih (by omega), this, List.reverse_append]; rfl
theorem decDigits_digs : ∀ u : Nat, u ≠ 0 → Lib.decDigits u = (digs u).reverse.map chD := by
  intro u
  induction u using Nat.strongRecOn with
  | _ u ih =>
    intro h
    rw [digs_pos h, List.reverse_cons, List.map_append]
    by_cases h1 : u < 10
    · rw [Lib.decDigits_one h1, show u / 10 = 0 by omega, digs_zero]
      simp [chD]; congr 2; omega
    · rw [Lib.decDigits, dif_neg h1, ih (u / 10) (by omega) (by omega)]
      simp [chD]; congr 1
theorem chD_zeros (n : Nat) : (List.replicate n (0 : Int)).map chD = List.replicate n 48 := by
  rw [List.map_replicate]; rfl
/-- What the reference writes is what the code writes. -/
theorem fmt_eq (n : Int) (k : Nat) (h : RightZ n k) : sgn n ++ fmtN (padD (digs n.natAbs) k) k (padD (digs n.natAbs) k).length = formatL n k := by
  obtain ⟨P, hP⟩ : ∃ P, padD (digs n.natAbs) k = P := ⟨_, rfl⟩
  have hlen : (digs n.natAbs).length ≤ P.length ∧ k + 1 ≤ P.length := by rw [← hP]; unfold padD; simp; omega
  -- the padded text is the padded digits, turned round
  have hpad : (n ≠ 0 ∨ k ≠ 0 ∨ True) → padL n k = P.reverse.map chD := by
    intro _
    by_cases h0 : n.natAbs = 0
    · have hk : k = 0 := by
        rcases h.2.2.2 with e | e
        · exact e
        · exact absurd (by omega : n % 10 = 0) e
      subst hk
      rw [← hP]; unfold padL padD
      rw [h0, digs_zero, Lib.decDigits_one (by decide)]
      decide
    · rw [← hP]; unfold padL padD
      rw [decDigits_digs _ h0, List.reverse_append, List.map_append, List.reverse_replicate, chD_zeros, List.length_map, List.length_reverse]
  have hp := hpad (.inr (.inr trivial))
  rw [hP]
  unfold formatL
  by_cases hk : k = 0
  · subst hk
    rw [if_pos rfl, fmtN_zero P P.length (Nat.le_refl _), List.take_length, ← hp]
    unfold padL
    have : 1 ≤ (Lib.decDigits n.natAbs).length := (decDigits_len _ (by have := h.1; have := h.2.1; omega)).1
    rw [show 0 + 1 - (Lib.decDigits n.natAbs).length = 0 by omega]; rfl
  · rw [if_neg hk, fmtN_gt P k (by omega) P.length (by omega) (Nat.le_refl _), List.take_length, hp]
    have e1 : (List.map chD P.reverse).length - k = (P.drop k).reverse.length := by simp
    have e2 : P.reverse = (P.drop k).reverse ++ (P.take k).reverse := by
      rw [← List.reverse_append, List.take_append_drop]
    have e3 : (List.drop k P).reverse.length = (List.map chD (List.drop k P).reverse).length := by simp
    rw [e1, e2, List.map_append, e3, List.take_left, List.drop_left]
    simp
end Go.Proofs
