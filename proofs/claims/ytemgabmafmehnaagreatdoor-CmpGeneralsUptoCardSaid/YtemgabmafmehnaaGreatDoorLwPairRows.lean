/- What stands behind the statement CmpPairs: lists of one, lists with more. No condition beyond what the theorems state. -/
import Derived.Test.YtemgabmafmehnaaGreatDoorLwRow4
import Derived.Test.YtemgabmafmehnaaGreatDoorCmGeneral
namespace Go.Proofs.YtemgabmafmehnaaGreatDoor
open Go.Shelf Go.RowKit Go.Proofs.Wide Go.Proofs.Dig
theorem pairs_one (q : Int) (a b : AV) : goZ q [b] [a] = pairZ q a b := by
  show (match (if (pairZ q a b).1 = true ∨ (pairZ q a b).2 ≠ 0 then some (pairZ q a b) else none) with | some r => r | none => (false, 0)) = _
  split
  · rename_i r h
    split at h
    · injection h with h; exact h.symm
    · cases h
  · rename_i h
    split at h
    · cases h
    · rename_i hn
      obtain ⟨⟨x, e⟩, hp⟩ : ∃ p, pairZ q a b = p := ⟨_, rfl⟩
      rw [hp] at hn ⊢
      simp only [not_or, Bool.not_eq_true, Decidable.not_not, ne_eq] at hn
      obtain ⟨h1, h2⟩ := hn
      rw [h1, h2]
theorem row_true {q : Int} {a b : AV} (ys : List AV) (h : pairZ q a b = (true, 0)) : rowZ q a (b :: ys) = some (true, 0) := by
  show (if (pairZ q a b).1 = true ∨ (pairZ q a b).2 ≠ 0 then some (pairZ q a b) else rowZ q a ys) = _
  rw [h, if_pos (.inl rfl)]
theorem pairs_more {q : Int} {a b : AV} (xs ys : List AV) (h : pairZ q a b = (true, 0)) : goZ q (b :: ys) (a :: xs) = (true, 0) := by
  show (match rowZ q a (b :: ys) with | some r => r | none => goZ q (b :: ys) xs) = _
  rw [row_true ys h]
theorem pairs_plain (q : Int) {a b : AV} (ha : a.kind ≠ 5) (hb : b.kind ≠ 5) : pairZ q a b = valZ q a b := by
  cases a with
  | raw l => exact absurd rfl ha
  | int n => cases b with
    | raw l => exact absurd rfl hb
    | _ => rfl
  | dec n c => cases b with
    | raw l => exact absurd rfl hb
    | _ => rfl
  | str l => cases b with
    | raw l => exact absurd rfl hb
    | _ => rfl
  | boo x => cases b with
    | raw l => exact absurd rfl hb
    | _ => rfl
/-- A row of right values is a row of values. -/
theorem row_avs : ∀ (L : List R5), L.all R5.ok = true → ∃ M : List AV, M.length = L.length ∧ (∀ a ∈ M, a.ok) ∧ ∀ (i : Nat) (r : R5), L[i]? = some r → ∃ a, M[i]? = some a ∧ r.v = a.v
  | [], _ => ⟨[], rfl, by simp, by simp⟩
  | r :: L, h => by
    rw [List.all_cons, Bool.and_eq_true] at h
    obtain ⟨a, ha, e⟩ : r.good := R5.good_of h.1
    obtain ⟨M, hM, hok, hat⟩ := row_avs L h.2
    refine ⟨a :: M, by rw [List.length_cons, List.length_cons, hM], ?_, ?_⟩
    · intro x hx
      rcases List.mem_cons.1 hx with rfl | hx
      · exact ha
      · exact hok x hx
    · intro i r' hr
      cases i with
      | zero => simp at hr; subst hr; exact ⟨a, rfl, e⟩
      | succ i => exact (hat i r' (by simpa using hr)).imp fun a h => ⟨by simpa using h.1, h.2⟩
theorem atomsG_of {w : World} {g : Nat} {L : List R5} {M : List AV} (hl : M.length = L.length) (hat : ∀ (i : Nat) (r : R5), L[i]? = some r → ∃ a, M[i]? = some a ∧ r.v = a.v) (h : RowG w g L) : AtomsG w g M := by
  intro i a ha
  have hi : i < L.length := by rw [← hl]; exact (List.getElem?_eq_some_iff.1 ha).1
  have hr := List.getElem?_eq_getElem hi
  obtain ⟨a', ha', e⟩ := hat i _ hr
  rw [ha] at ha'
  injection ha' with ha'
  subst ha'
  obtain ⟨f1, f2, f3, f4, f5⟩ := av_fields e
  obtain ⟨c0, c1, c2, c3, c4⟩ := h i _ hr
  rw [f1] at c0; rw [f2] at c1; rw [f3] at c2; rw [f4] at c3; rw [f5] at c4
  exact ⟨c0, c1, c2, c3, c4⟩
end Go.Proofs.YtemgabmafmehnaaGreatDoor
