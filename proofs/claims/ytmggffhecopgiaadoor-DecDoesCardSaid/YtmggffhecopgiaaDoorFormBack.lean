/- What is printed is read back. No condition beyond what the theorems state. -/
import Derived.Test.YtmggffhecopgiaaDoorRefParse
namespace Go.Proofs
open Go.Shelf Go.RowKit Go.Proofs.Wide Go.Proofs.Dig
theorem isD_chD (d : Int) (h0 : 0 ≤ d) (h9 : d ≤ 9) : isD (chD d) = true ∧ dgc (chD d) = d ∧ chD d ≠ 45 ∧ chD d ≠ 43 := by
  have : d = 0 ∨ d = 1 ∨ d = 2 ∨ d = 3 ∨ d = 4 ∨ d = 5 ∨ d = 6 ∨ d = 7 ∨ d = 8 ∨ d = 9 := by omega
  rcases this with rfl | rfl | rfl | rfl | rfl | rfl | rfl | rfl | rfl | rfl <;> decide
theorem all_chD (l : List Int) (h : isDig l) : (l.map chD).all isD = true := by
  rw [List.all_eq_true]
  intro c hc
  obtain ⟨d, hd, rfl⟩ := List.mem_map.1 hc
  exact (isD_chD d (h d hd).1 (h d hd).2).1
theorem dgc_chD (l : List Int) (h : isDig l) : (l.map chD).map dgc = l := by
  rw [List.map_map]
  conv => rhs; rw [← List.map_id l]
  refine List.map_congr_left fun d hd => ?_
  exact (isD_chD d (h d hd).1 (h d hd).2).2.1
theorem takeWhile_all {q : UInt8 → Bool} : ∀ (a r : List UInt8), a.all q = true → (∀ c r', r = c :: r' → q c = false) → (a ++ r).takeWhile q = a ∧ (a ++ r).dropWhile q = r := by
  intro a
  induction a with
  | nil => intro r _ h; cases r with
    | nil => exact ⟨rfl, rfl⟩
    | cons c r => have := h c r rfl; simp [this]
  | cons c a ih =>
    intro r h hr
    simp only [List.all_cons, Bool.and_eq_true] at h
    obtain ⟨i1, i2⟩ := ih r h.2 hr
    simp [h.1, i1, i2]
/-- What is printed is read back. -/
theorem parse_format (n : Int) (k : Nat) (h : RightZ n k) : parseZ (formatL n k) = (n, (k : Int), 0) := by
  rw [← fmt_eq n k h]
  have hd := digs_val n.natAbs
  obtain ⟨P, hP⟩ : ∃ P, padD (digs n.natAbs) k = P := ⟨_, rfl⟩
  have hPd : isDig P := by rw [← hP]; exact isDig_append hd.2.1 (isDig_zeros _)
  have hPv : val P = n.natAbs := by rw [← hP]; unfold padD; rw [val_append, hd.1, val_zeros]; omega
  have hPl : k + 1 ≤ P.length := by rw [← hP]; unfold padD; simp; omega
  rw [hP]
  have hB : fmtN P k P.length = (if k = 0 then P.reverse.map chD else (P.drop k).reverse.map chD ++ [46] ++ (P.take k).reverse.map chD) := by
    by_cases hk : k = 0
    · subst hk; rw [if_pos rfl, fmtN_zero P P.length (Nat.le_refl _), List.take_length]
    · rw [if_neg hk, fmtN_gt P k (by omega) P.length (by omega) (Nat.le_refl _), List.take_length]
  obtain ⟨B, hBB⟩ : ∃ B, fmtN P k P.length = B := ⟨_, rfl⟩
  rw [hBB] at hB ⊢
  have hrd : isDig P.reverse := fun d hx => hPd d (List.mem_reverse.1 hx)
  have hdr : isDig (P.drop k).reverse := fun d hx => isDig_drop hPd k d (List.mem_reverse.1 hx)
  have htk : isDig (P.take k).reverse := fun d hx => isDig_take hPd k d (List.mem_reverse.1 hx)
  have hhead : B.head? ≠ some 45 ∧ B.head? ≠ some 43 := by
    have hne : (P.drop k).reverse ≠ [] := by intro e; have := congrArg List.length e; simp at this; omega
    have key : ∀ (l : List Int) (s : List UInt8), isDig l → l ≠ [] → (l.map chD ++ s).head? ≠ some 45 ∧ (l.map chD ++ s).head? ≠ some 43 := by
      intro l s hl hne
      cases l with
      | nil => exact absurd rfl hne
      | cons d l =>
        have := isD_chD d (hl d (by simp)).1 (hl d (by simp)).2
        simp [this.2.2.1, this.2.2.2]
    rw [hB]
    split
    · have := key P.reverse [] hrd (by intro e; have := congrArg List.length e; simp at this; rw [this] at hPl; simp at hPl)
      simpa using this
    · rw [List.append_assoc]; exact key _ _ hdr hne
  have hsg : signL (sgn n ++ B) = (B, decide (n < 0)) := by
    unfold sgn
    by_cases hn : n < 0
    · rw [if_pos hn]; unfold signL; simp [hn]
    · rw [if_neg hn]; unfold signL; simp [hhead.1, hhead.2, hn]
  have hsgn : sg (decide (n < 0)) ((n.natAbs : Nat) : Int) = n := by unfold sg; by_cases hn : n < 0 <;> simp [hn] <;> omega
  have hfit : fitZ n k = some (n, k) := (fit_some n n k k h.2.2.1).2 ⟨h, rfl⟩
  rw [← ref_parse]
  unfold refP
  rw [hsg, scan_eq]
  by_cases hk : k = 0
  · subst hk
    rw [if_pos rfl] at hB
    have tw := takeWhile_all B [] (by rw [hB]; exact all_chD _ hrd) (fun c r' e => by cases e)
    rw [List.append_nil] at tw
    have hD : B.map dgc = P.reverse := by rw [hB]; exact dgc_chD _ hrd
    have hne : ¬ (B.map dgc = []) := by rw [hD]; intro e; have := congrArg List.length e; simp at this; rw [this] at hPl; simp at hPl
    rw [tw.1, tw.2]
    simp only [behindL, List.head?_nil]
    simp [hD, hPv, hsgn, hfit, outN, outK, outE]
    intro e; subst e; simp at hPl
  · rw [if_neg hk] at hB
    have hB' : B = (P.drop k).reverse.map chD ++ (46 :: (P.take k).reverse.map chD) := by rw [hB]; simp
    have tw := takeWhile_all ((P.drop k).reverse.map chD) (46 :: (P.take k).reverse.map chD) (all_chD _ hdr) (fun c r' e => by injection e with e1 _; subst e1; decide)
    have tw2 := takeWhile_all ((P.take k).reverse.map chD) [] (all_chD _ htk) (fun c r' e => by cases e)
    rw [List.append_nil] at tw2
    rw [hB', tw.1, tw.2]
    have hbl : behindL (46 :: (P.take k).reverse.map chD) = ((P.take k).reverse.map chD, []) := by
      generalize (P.take k).reverse.map chD = X at tw2
      have h46 : ((46 : UInt8) :: X).head? = some 46 := rfl
      unfold behindL
      rw [if_pos h46]
      show (X.takeWhile isD, X.dropWhile isD) = _
      rw [tw2.1, tw2.2]
    rw [hbl]
    have hD : ((P.drop k).reverse.map chD ++ (P.take k).reverse.map chD).map dgc = P.reverse := by
      rw [List.map_append, dgc_chD _ hdr, dgc_chD _ htk, ← List.reverse_append, List.take_append_drop]
    have hne : ¬ (P.reverse = []) := by intro e; have := congrArg List.length e; simp at this; rw [this] at hPl; simp at hPl
    have hlen : ((P.drop k).reverse.map chD).length = P.length - k := by simp
    simp only [hD, hlen, ne_eq, not_true_eq_false, if_false, hne, reduceCtorEq]
    have e1 : P.reverse.length - ((P.length - k : Nat) : Int).toNat = k := by simp; omega
    rw [if_pos (by omega), e1, List.reverse_reverse, hPv, hsgn, hfit]
    rfl
theorem format_len (n : Int) (k : Nat) (h : RightZ n k) : (formatL n k).length ≤ 100 := by
  rw [← fmt_eq n k h]
  have h1 := (fmtN_len (padD (digs n.natAbs) k) k (padD (digs n.natAbs) k).length).1
  have h2 : (padD (digs n.natAbs) k).length ≤ 28 := by
    have := digs_len18 (u := n.natAbs) (by have := h.1; have := h.2.1; omega)
    have := h.2.2.1
    unfold padD; simp; omega
  rw [List.length_append]
  have h3 : (sgn n).length ≤ 1 := by unfold sgn; split <;> simp
  omega
end Go.Proofs
