/- When two trees are the same in depth, in plain words. No condition beyond what the theorems state. -/
import Derived.Test.YtnkodafhjcjpjaaDoorTrees
namespace Go.Proofs.YtnkodafhjcjpjaaDoor
def kOf : PT → Int
  | .mk k _ _ _ _ => k
/-- A tree with nothing in it that does not count: attributes by how often each stands there, kids without comments. -/
inductive CT where
  | mk (k : Int) (n v : List UInt8) (cnt : List UInt8 × List UInt8 → Nat) (ks : List CT) : CT
def noP : List UInt8 × List UInt8 → Nat := fun _ => 0
def cntP (ps : List (List UInt8 × List UInt8)) : List UInt8 × List UInt8 → Nat := fun p => ps.count p
mutual
def canon : PT → CT
  | .mk k n v ps ks =>
    if k = 1 then .mk 1 [] [] noP (canonL ks)
    else if k = 2 then .mk 2 n [] (cntP ps) (canonL ks)
    else if k = 3 then .mk 3 n v noP []
    else if k = 4 ∨ k = 5 then .mk k [] v noP []
    else .mk k [] [] noP []
def canonL : List PT → List CT
  | [] => []
  | t :: ts => if kOf t = 5 then canonL ts else canon t :: canonL ts
end
theorem canonL_app : ∀ (a b : List PT), canonL (a ++ b) = canonL a ++ canonL b
  | [], b => by rw [List.nil_append, canonL, List.nil_append]
  | t :: a, b => by
    rw [List.cons_append, canonL, canonL, canonL_app a b]
    split
    · rfl
    · rw [List.cons_append]
theorem canonL_skip {t : PT} {L : List PT} (h : kOf t = 5) : canonL (t :: L) = canonL L := by rw [canonL, if_pos h]
theorem canonL_take {t : PT} {L : List PT} (h : kOf t ≠ 5) : canonL (t :: L) = canon t :: canonL L := by rw [canonL, if_neg h]
/-- A comment more among the kids changes nothing. -/
theorem canon_more (k : Int) (n v : List UInt8) (ps : List (List UInt8 × List UInt8)) (ks : List PT) (c : PT) (hc : kOf c = 5) : canon (.mk k n v ps (ks ++ [c])) = canon (.mk k n v ps ks) := by
  have e : canonL (ks ++ [c]) = canonL ks := by rw [canonL_app, canonL_skip hc, canonL, List.append_nil]
  rw [canon, canon, e]
def ctK : CT → Int
  | .mk k _ _ _ _ => k
theorem canon_kind (t : PT) : ctK (canon t) = kOf t := by
  obtain ⟨k, n, v, ps, ks⟩ := t
  rw [canon, kOf]
  by_cases h1 : k = 1
  · rw [if_pos h1]; exact h1.symm
  · rw [if_neg h1]
    by_cases h2 : k = 2
    · rw [if_pos h2]; exact h2.symm
    · rw [if_neg h2]
      by_cases h3 : k = 3
      · rw [if_pos h3]; exact h3.symm
      · rw [if_neg h3]
        by_cases h4 : k = 4 ∨ k = 5
        · rw [if_pos h4]; rfl
        · rw [if_neg h4]; rfl
theorem perm_of_le {α : Type} [BEq α] [LawfulBEq α] : ∀ (xs ys : List α), (∀ p, xs.count p ≤ ys.count p) → ys.length ≤ xs.length → xs.Perm ys
  | [], ys, _, h => by
    obtain rfl : ys = [] := List.length_eq_zero_iff.1 (by simpa using h)
    exact List.Perm.refl _
  | a :: xs, ys, h, hl => by
    have ha : a ∈ ys := by
      have := h a
      rw [List.count_cons_self] at this
      exact List.count_pos_iff.1 (by omega)
    have hp := List.perm_cons_erase ha
    have hlen := hp.length_eq
    rw [List.length_cons] at hlen hl
    refine ((perm_of_le xs (ys.erase a) (fun p => ?_) (by omega)).cons a).trans hp.symm
    have h1 := h p
    rw [hp.count_eq p, List.count_cons, List.count_cons] at h1
    omega
/-- How often each stands there: looked at among these alone, and by their numbers. -/
theorem cnt_same {xs ys : List (List UInt8 × List UInt8)} : cntP xs = cntP ys ↔ xs.length = ys.length ∧ ∀ p ∈ xs, xs.count p = ys.count p := by
  constructor
  · intro h
    have hp : xs.Perm ys := List.perm_iff_count.2 fun p => congrFun h p
    exact ⟨hp.length_eq, fun p _ => congrFun h p⟩
  · rintro ⟨h1, h2⟩
    have hp : xs.Perm ys := perm_of_le xs ys (fun p => by
      by_cases hm : p ∈ xs
      · rw [h2 p hm]; exact Nat.le_refl _
      · rw [List.count_eq_zero_of_not_mem hm]; exact Nat.zero_le _) (by omega)
    funext p
    exact hp.count_eq p
/-- Put away one by one: what is left over decides. -/
theorem cnt_le {xs ys : List (List UInt8 × List UInt8)} (hl : xs.length = ys.length) : cntP xs = cntP ys ↔ ∀ p, ys.count p ≤ xs.count p := by
  constructor
  · intro h p
    exact Nat.le_of_eq (congrFun h p).symm
  · intro h
    have hp := perm_of_le ys xs h (by omega)
    funext p
    exact (hp.count_eq p).symm
/-- What a tree asks of another: kinds first, then what counts of that kind. -/
theorem canon_iff (k : Int) (n v : List UInt8) (ps : List (List UInt8 × List UInt8)) (ks : List PT) (n' v' : List UInt8) (ps' : List (List UInt8 × List UInt8)) (ks' : List PT) :
    canon (.mk k n v ps ks) = canon (.mk k n' v' ps' ks') ↔
      (if k = 1 then canonL ks = canonL ks' else if k = 2 then n = n' ∧ cntP ps = cntP ps' ∧ canonL ks = canonL ks' else if k = 3 then n = n' ∧ v = v' else if k = 4 ∨ k = 5 then v = v' else True) := by
  rw [canon, canon]
  by_cases h1 : k = 1
  · rw [if_pos h1, if_pos h1, if_pos h1]; simp
  · rw [if_neg h1, if_neg h1, if_neg h1]
    by_cases h2 : k = 2
    · rw [if_pos h2, if_pos h2, if_pos h2]; simp
    · rw [if_neg h2, if_neg h2, if_neg h2]
      by_cases h3 : k = 3
      · rw [if_pos h3, if_pos h3, if_pos h3]; simp
      · rw [if_neg h3, if_neg h3, if_neg h3]
        by_cases h4 : k = 4 ∨ k = 5
        · rw [if_pos h4, if_pos h4, if_pos h4]; simp
        · rw [if_neg h4, if_neg h4, if_neg h4]; simp
theorem canon_kinds {a b : PT} (h : canon a = canon b) : kOf a = kOf b := by rw [← canon_kind, ← canon_kind, h]
end Go.Proofs.YtnkodafhjcjpjaaDoor
