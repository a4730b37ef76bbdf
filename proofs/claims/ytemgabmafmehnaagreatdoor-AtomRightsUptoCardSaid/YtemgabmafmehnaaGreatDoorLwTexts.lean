/- The text that the reference writes of a value; what a cast gives is right. No condition beyond what the theorems state. -/
import Derived.Test.YtemgabmafmehnaaGreatDoorAtRefTexts
import Derived.Test.YtemgabmafmehnaaGreatDoorAtWrites
namespace Go.Proofs.YtemgabmafmehnaaGreatDoor
open Go.Shelf Go.RowKit Go.Proofs.Wide Go.Proofs.Dig
set_option maxRecDepth 100000
set_option maxHeartbeats 4000000
theorem refText_av (a : AV) (h : a.ok) : Hid (Gives 22 #[a.v] (.string (ba' (textZ a)))) := gives_unfold fun w => by
  cases a with
  | int n => exact refText_int n _ w (refFormat_gt n 0 h)
  | dec n c => exact refText_dec n c _ w (refFormat_gt n c h)
  | str l => exact refText_str l w
  | boo b => cases b
             · exact refText_false w
             · exact refText_true w
  | raw l => exact refText_raw l w
theorem out_ok {a a' : AV} {k : Int} (h : a.ok) (hc : castZ a k = .ok a') : a'.ok := by
  have hw := @right_whole
  unfold castZ at hc
  split at hc
  · cases a with
    | int n => simp only [toIntZ] at hc; injection hc with hc; subst hc; exact h
    | dec n c => simp only [toIntZ] at hc; injection hc with hc; subst hc; exact hw h
    | boo b => simp only [toIntZ] at hc; injection hc with hc; subst hc; cases b
               · exact zero_right
               · exact one_right
    | str l =>
      simp only [toIntZ] at hc
      split at hc
      · cases hc
      · cases hr : readZ (trimB l) with
        | error e => rw [hr] at hc; cases hc
        | ok p => rw [hr] at hc; injection hc with hc; subst hc; exact hw (read_ok hr).1
    | raw l =>
      simp only [toIntZ] at hc
      split at hc
      · cases hc
      · cases hr : readZ (trimB l) with
        | error e => rw [hr] at hc; cases hc
        | ok p => rw [hr] at hc; injection hc with hc; subst hc; exact hw (read_ok hr).1
  split at hc
  · cases a with
    | int n => simp only [toDecZ] at hc; injection hc with hc; subst hc; exact h
    | dec n c => simp only [toDecZ] at hc; injection hc with hc; subst hc; exact h
    | boo b => simp only [toDecZ] at hc; injection hc with hc; subst hc; cases b
               · exact zero_right
               · exact one_right
    | str l =>
      simp only [toDecZ] at hc
      cases hr : readZ (trimB l) with
      | error e => rw [hr] at hc; cases hc
      | ok p => rw [hr] at hc; injection hc with hc; subst hc; exact (read_ok hr).1
    | raw l =>
      simp only [toDecZ] at hc
      cases hr : readZ (trimB l) with
      | error e => rw [hr] at hc; cases hc
      | ok p => rw [hr] at hc; injection hc with hc; subst hc; exact (read_ok hr).1
  split at hc
  · injection hc with hc; subst hc; exact text_ok a h
  split at hc
  · have tl : ∀ u, truthL u = .ok a' → a'.ok := fun u hu => by
      rcases truthL_cases u with ⟨_, r⟩ | ⟨_, r⟩ | ⟨_, r⟩ | ⟨_, r⟩ | ⟨_, _, _, _, r⟩ <;> rw [r] at hu
      · injection hu with hu; subst hu; trivial
      · injection hu with hu; subst hu; trivial
      · injection hu with hu; subst hu; trivial
      · injection hu with hu; subst hu; trivial
      · cases hu
    cases a with
    | int n => simp only [toBoolZ] at hc; injection hc with hc; subst hc; trivial
    | dec n c => simp only [toBoolZ] at hc; injection hc with hc; subst hc; trivial
    | boo b => simp only [toBoolZ] at hc; injection hc with hc; subst hc; trivial
    | str l => exact tl _ hc
    | raw l => exact tl _ hc
  split at hc
  · injection hc with hc; subst hc; exact text_ok a h
  · cases hc
theorem err_no {a : AV} {k e : Int} (hc : castZ a k = .error e) : e ≠ 0 := by
  unfold castZ at hc
  have rd : ∀ t e, readZ t = .error e → e ≠ 0 := fun t e h => by rcases read_err h with ⟨rfl, _⟩ | ⟨rfl, _⟩ <;> decide
  split at hc
  · cases a with
    | int n => simp only [toIntZ] at hc; cases hc
    | dec n c => simp only [toIntZ] at hc; cases hc
    | boo b => simp only [toIntZ] at hc; cases hc
    | str l =>
      simp only [toIntZ] at hc
      split at hc
      · injection hc with hc; subst hc; decide
      · cases hr : readZ (trimB l) with
        | error e' => rw [hr] at hc; injection hc with hc; subst hc; exact rd _ _ hr
        | ok p => rw [hr] at hc; cases hc
    | raw l =>
      simp only [toIntZ] at hc
      split at hc
      · injection hc with hc; subst hc; decide
      · cases hr : readZ (trimB l) with
        | error e' => rw [hr] at hc; injection hc with hc; subst hc; exact rd _ _ hr
        | ok p => rw [hr] at hc; cases hc
  split at hc
  · cases a with
    | int n => simp only [toDecZ] at hc; cases hc
    | dec n c => simp only [toDecZ] at hc; cases hc
    | boo b => simp only [toDecZ] at hc; cases hc
    | str l =>
      simp only [toDecZ] at hc
      cases hr : readZ (trimB l) with
      | error e' => rw [hr] at hc; injection hc with hc; subst hc; exact rd _ _ hr
      | ok p => rw [hr] at hc; cases hc
    | raw l =>
      simp only [toDecZ] at hc
      cases hr : readZ (trimB l) with
      | error e' => rw [hr] at hc; injection hc with hc; subst hc; exact rd _ _ hr
      | ok p => rw [hr] at hc; cases hc
  split at hc
  · cases hc
  split at hc
  · have tl : ∀ u, truthL u = .error e → e ≠ 0 := fun u hu => by
      rcases truthL_cases u with ⟨_, r⟩ | ⟨_, r⟩ | ⟨_, r⟩ | ⟨_, r⟩ | ⟨_, _, _, _, r⟩ <;> rw [r] at hu
      · cases hu
      · cases hu
      · cases hu
      · cases hu
      · injection hu with hu; subst hu; decide
    cases a with
    | int n => simp only [toBoolZ] at hc; cases hc
    | dec n c => simp only [toBoolZ] at hc; cases hc
    | boo b => simp only [toBoolZ] at hc; cases hc
    | str l => exact tl _ hc
    | raw l => exact tl _ hc
  split at hc
  · cases hc
  · injection hc with hc; subst hc; decide
end Go.Proofs.YtemgabmafmehnaaGreatDoor
