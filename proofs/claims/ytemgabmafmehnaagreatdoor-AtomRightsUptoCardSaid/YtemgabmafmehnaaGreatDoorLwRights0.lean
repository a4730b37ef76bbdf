/- Which values the reference takes for right. No condition beyond what the theorems state. -/
import Derived.Test.YtemgabmafmehnaaGreatDoorAtRefs
import Derived.Test.YtemgabmafmehnaaGreatDoorAtWrites
namespace Go.Proofs.YtemgabmafmehnaaGreatDoor
open Go.Shelf Go.RowKit Go.Proofs.Wide Go.Proofs.Dig
set_option maxRecDepth 100000
set_option maxHeartbeats 4000000
theorem right_of {n k : Int} (h : rightB (n, k) = true) : ∃ j : Nat, k = (j : Int) ∧ RightZ n j := by
  unfold rightB at h
  simp only [decide_eq_true_eq] at h
  obtain ⟨a, b, c, d, e⟩ := h
  exact ⟨k.toNat, by omega, a, b, by omega, by omega⟩
/-- A value is one of the five forms and right, or the reference refuses it. -/
theorem refR_cases (k n c : Int) (l : List UInt8) (b : Bool) (hn : InI n) (hc : InI c) (hl : l.length ≤ 1048576) :
    (∃ a : AV, a.ok ∧ .agg #[.int .i64 k, .int .i64 n, .int .i64 c, .string (ba' l), .bool b] = a.v ∧ Hid (Gives 13 #[a.v] (.bool true))) ∨ Hid (Gives 13 #[.agg #[.int .i64 k, .int .i64 n, .int .i64 c, .string (ba' l), .bool b]] (.bool false)) := by
  by_cases hle : l = []
  · subst hle
    by_cases k1 : k = 1
    · subst k1
      by_cases c0 : c = 0
      · subst c0
        cases b with
        | true => exact .inr (gives_unfold fun w => refR_int_b n [] w)
        | false =>
          cases hr : rightB (n, 0) with
          | true =>
            obtain ⟨j, hj, hz⟩ := right_of hr
            have j0 : j = 0 := by have : (j : Int) = 0 := by simpa using hj.symm
                                  omega
            subst j0
            exact .inl ⟨.int n, hz, rfl, gives_unfold fun w => refR_int n true w (numRef_gt n 0 hn hc _ hr)⟩
          | false => exact .inr (gives_unfold fun w => refR_int n false w (numRef_gt n 0 hn hc _ hr))
      · exact .inr (gives_unfold fun w => refR_int_c n c [] b w c0)
    by_cases k2 : k = 2
    · subst k2
      cases b with
      | true => exact .inr (gives_unfold fun w => refR_dec_b n c [] w)
      | false =>
        cases hr : rightB (n, c) with
        | true =>
          obtain ⟨j, hj, hz⟩ := right_of hr
          have hj' : c = (j : Int) := hj
          subst hj'
          exact .inl ⟨.dec n j, hz, rfl, gives_unfold fun w => refR_dec n j true w (numRef_gt n j hn hc _ hr)⟩
        | false => exact .inr (gives_unfold fun w => refR_dec n c false w (numRef_gt n c hn hc _ hr))
    by_cases k3 : k = 3
    · subst k3
      by_cases n0 : n = 0
      · subst n0
        by_cases c0 : c = 0
        · subst c0
          cases b with
          | true => exact .inr (gives_unfold fun w => refR_str_b [] w)
          | false => exact .inl ⟨.str [], ⟨rfl, by decide⟩, rfl, gives_unfold fun w => refR_str [] true w (validRef_gt [] (by decide) _ rfl)⟩
        · exact .inr (gives_unfold fun w => refR_str_c c [] b w c0)
      · exact .inr (gives_unfold fun w => refR_str_n n c [] b w n0)
    by_cases k5 : k = 5
    · subst k5
      by_cases n0 : n = 0
      · subst n0
        by_cases c0 : c = 0
        · subst c0
          cases b with
          | true => exact .inr (gives_unfold fun w => refR_raw_b [] w)
          | false => exact .inl ⟨.raw [], ⟨rfl, by decide⟩, rfl, gives_unfold fun w => refR_raw [] true w (validRef_gt [] (by decide) _ rfl)⟩
        · exact .inr (gives_unfold fun w => refR_raw_c c [] b w c0)
      · exact .inr (gives_unfold fun w => refR_raw_n n c [] b w n0)
    by_cases k4 : k = 4
    · subst k4
      by_cases n0 : n = 0
      · subst n0
        by_cases c0 : c = 0
        · subst c0
          exact .inl ⟨.boo b, trivial, rfl, gives_unfold fun w => refR_boo b w⟩
        · exact .inr (gives_unfold fun w => refR_boo_c c [] b w c0)
      · exact .inr (gives_unfold fun w => refR_boo_n n c [] b w n0)
    have hk : k ≠ 1 ∧ k ≠ 2 ∧ k ≠ 3 ∧ k ≠ 4 ∧ k ≠ 5 := ⟨k1, k2, k3, k4, k5⟩
    by_cases n0 : n = 0
    · subst n0
      by_cases c0 : c = 0
      · subst c0
        cases b with
        | true => exact .inr (gives_unfold fun w => refR_no_b k [] w hk)
        | false => exact .inr (gives_unfold fun w => refR_no k w hk)
      · exact .inr (gives_unfold fun w => refR_no_c k c [] b w hk c0)
    · exact .inr (gives_unfold fun w => refR_no_n k n c [] b w hk n0)
  · by_cases k1 : k = 1
    · subst k1
      by_cases c0 : c = 0
      · subst c0
        cases b with
        | true => exact .inr (gives_unfold fun w => refR_int_b n l w)
        | false => exact .inr (gives_unfold fun w => refR_int_l n l w hle)
      · exact .inr (gives_unfold fun w => refR_int_c n c l b w c0)
    by_cases k2 : k = 2
    · subst k2
      cases b with
      | true => exact .inr (gives_unfold fun w => refR_dec_b n c l w)
      | false => exact .inr (gives_unfold fun w => refR_dec_l n c l w hle)
    by_cases k3 : k = 3
    · subst k3
      by_cases n0 : n = 0
      · subst n0
        by_cases c0 : c = 0
        · subst c0
          cases b with
          | true => exact .inr (gives_unfold fun w => refR_str_b l w)
          | false =>
            cases hv : validX l with
            | true => exact .inl ⟨.str l, ⟨hv, hl⟩, rfl, gives_unfold fun w => refR_str l true w (validRef_gt l hl _ hv)⟩
            | false => exact .inr (gives_unfold fun w => refR_str l false w (validRef_gt l hl _ hv))
        · exact .inr (gives_unfold fun w => refR_str_c c l b w c0)
      · exact .inr (gives_unfold fun w => refR_str_n n c l b w n0)
    by_cases k5 : k = 5
    · subst k5
      by_cases n0 : n = 0
      · subst n0
        by_cases c0 : c = 0
        · subst c0
          cases b with
          | true => exact .inr (gives_unfold fun w => refR_raw_b l w)
          | false =>
            cases hv : validX l with
            | true => exact .inl ⟨.raw l, ⟨hv, hl⟩, rfl, gives_unfold fun w => refR_raw l true w (validRef_gt l hl _ hv)⟩
            | false => exact .inr (gives_unfold fun w => refR_raw l false w (validRef_gt l hl _ hv))
        · exact .inr (gives_unfold fun w => refR_raw_c c l b w c0)
      · exact .inr (gives_unfold fun w => refR_raw_n n c l b w n0)
    by_cases k4 : k = 4
    · subst k4
      by_cases n0 : n = 0
      · subst n0
        by_cases c0 : c = 0
        · subst c0
          exact .inr (gives_unfold fun w => refR_boo_l l b w hle)
        · exact .inr (gives_unfold fun w => refR_boo_c c l b w c0)
      · exact .inr (gives_unfold fun w => refR_boo_n n c l b w n0)
    have hk : k ≠ 1 ∧ k ≠ 2 ∧ k ≠ 3 ∧ k ≠ 4 ∧ k ≠ 5 := ⟨k1, k2, k3, k4, k5⟩
    by_cases n0 : n = 0
    · subst n0
      by_cases c0 : c = 0
      · subst c0
        cases b with
        | true => exact .inr (gives_unfold fun w => refR_no_b k l w hk)
        | false => exact .inr (gives_unfold fun w => refR_no_l k l w hk hle)
      · exact .inr (gives_unfold fun w => refR_no_c k c l b w hk c0)
    · exact .inr (gives_unfold fun w => refR_no_n k n c l b w hk n0)
end Go.Proofs.YtemgabmafmehnaaGreatDoor
