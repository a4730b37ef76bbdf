/- The statement DecEven answers true at every two numbers. No condition beyond what the theorems state. -/
import Derived.Test.YtmggffhecopgiaaDoorEvenWalk
import Derived.Test.YtmggffhecopgiaaDoorEvenGuards
namespace Go.Proofs
open Go.Shelf Go.RowKit Go.Proofs.Wide
theorem gs {n m : Int} {k l : Nat} (h : RightZ n k) (h' : RightZ m l) : Hid (Gives 19 #[.agg #[.int .i64 n, .int .i64 k], .agg #[.int .i64 m, .int .i64 l]] (outV (subZ n k m l))) := gives_unfold fun w => sub_any n m k l h h' w
theorem gm {n m : Int} {k l : Nat} (h : RightZ n k) (h' : RightZ m l) : Hid (Gives 20 #[.agg #[.int .i64 n, .int .i64 k], .agg #[.int .i64 m, .int .i64 l]] (outV (mulZ n k m l))) := gives_unfold fun w => mul_any n m k l h h' w
theorem gi {n m : Int} {k l : Nat} (h : RightZ n k) (h' : RightZ m l) (hm : m ≠ 0) : Hid (Gives 22 #[.agg #[.int .i64 n, .int .i64 k], .agg #[.int .i64 m, .int .i64 l]] (outV (idivZ n k m l))) := gives_unfold fun w => idiv_any n m k l h h' hm w
theorem gmo {n m : Int} {k l : Nat} (h : RightZ n k) (h' : RightZ m l) (hm : m ≠ 0) : Hid (Gives 23 #[.agg #[.int .i64 n, .int .i64 k], .agg #[.int .i64 m, .int .i64 l]] (outV (modZ n k m l))) := gives_unfold fun w => mod_any n m k l h h' hm w
theorem gi0 {n : Int} {k l : Nat} (h : RightZ n k) (h' : RightZ 0 l) : Hid (Gives 22 #[.agg #[.int .i64 n, .int .i64 k], .agg #[.int .i64 0, .int .i64 l]] (.tuple #[.agg #[.int .i64 0, .int .i64 0], .int .i64 52])) := gives_unfold fun w => idiv_zero n k l h h' w
theorem gmo0 {n : Int} {k l : Nat} (h : RightZ n k) (h' : RightZ 0 l) : Hid (Gives 23 #[.agg #[.int .i64 n, .int .i64 k], .agg #[.int .i64 0, .int .i64 l]] (.tuple #[.agg #[.int .i64 0, .int .i64 0], .int .i64 52])) := gives_unfold fun w => mod_zero n k l h h' w
theorem cmp_bd (n m : Int) (k l : Nat) : -1 ≤ cmpZ n k m l ∧ cmpZ n k m l ≤ 1 := by unfold cmpZ; repeat' split
                                                                                    all_goals omega
theorem even_law (n1 k1 n2 k2 : Int) (a1 : InI n1) (b1 : InI k1) (a2 : InI n2) (b2 : InI k2) (w : World) :
    Calls Tryd.prog 5 #[nv n1 k1, nv n2 k2] w fun e w' => e = .returned (.bool true) ∧ Below w.heap.size w w' := by
  cases r1 : rightB (n1, k1) with
  | false => exact even_not0 n1 k1 n2 k2 w wake (gr a1 b1 r1)
  | true =>
  cases r2 : rightB (n2, k2) with
  | false => exact even_not1 n1 k1 n2 k2 w wake (gr a1 b1 r1) (gr a2 b2 r2)
  | true =>
  obtain ⟨j1, rfl, z1⟩ := right_of r1
  obtain ⟨j2, rfl, z2⟩ := right_of r2
  have l1 := z1.2.2.1
  have l2 := z2.2.2.1
  have anti := cmp_anti (n := n1) (m := n2) l1 l2
  have cb := cmp_bd n1 n2 j1 j2
  have cz := cmp_zero z1 z2
  have A2 := ga z2 z1
  rw [add_comm' n2 n1] at A2
  have M2 := gm z2 z1
  rw [mul_comm' n2 n1] at M2
  have wy : IntKind.i64.wrap (-cmpZ n2 j2 n1 j1) = cmpZ n1 j1 n2 j2 := by rw [IntKind.wrap_i64]; omega
  have hv : (n1 = n2 ∧ (j1 : Int) = (j2 : Int) ∧ (cmpZ n1 j1 n2 j2 == 0) = true) ∨ (¬ n1 = n2 ∧ (cmpZ n1 j1 n2 j2 == 0) = false) ∨ (n1 = n2 ∧ ¬ (j1 : Int) = (j2 : Int) ∧ (cmpZ n1 j1 n2 j2 == 0) = false) := by
    by_cases h1 : n1 = n2
    · by_cases h2 : j1 = j2
      · exact .inl ⟨h1, by omega, by simpa using cz.2 ⟨h1, h2⟩⟩
      · refine .inr (.inr ⟨h1, by omega, ?_⟩)
        simp only [beq_eq_false_iff_ne]; intro h; exact h2 (cz.1 h).2
    · refine .inr (.inl ⟨h1, ?_⟩)
      simp only [beq_eq_false_iff_ne]; intro h; exact h1 (cz.1 h).1
  have hS : ¬ outE (subZ n1 j1 n2 j2) = 0 ∨ (outE (subZ n1 j1 n2 j2) = 0 ∧ Hid (Gives 18 #[.agg #[.int .i64 (outN (subZ n1 j1 n2 j2)), .int .i64 (outK (subZ n1 j1 n2 j2))], .agg #[.int .i64 n2, .int .i64 j2]] (.tuple #[.agg #[.int .i64 n1, .int .i64 j1], .int .i64 0]))) := by
    cases e : subZ n1 j1 n2 j2 with
    | none => exact .inl (by unfold outE; decide)
    | some p =>
      obtain ⟨d, dk⟩ := p
      have sb := sub_back z1 z2 e
      have g := ga sb.1 z2
      rw [sb.2] at g
      exact .inr ⟨rfl, g⟩
  by_cases hm : n2 = 0
  · subst hm
    exact even_core n1 j1 0 j2 _ _ _ _ _ _ _ _ _ _ _ 0 0 52 0 0 52 0 0 0 _ w wake (gr a1 b1 r1) (gr a2 b2 r2) (ga z1 z2) A2 (gm z1 z2) M2 (gc z1 z2) (gc z2 z1) wy rfl hv (gs z1 z2) hS (gi0 z1 z2) (gmo0 z1 z2) (.inl ⟨rfl, rfl, rfl⟩)
  · obtain ⟨r, rk, er, hr, hrv, hrs⟩ := mod_some z1 z2 hm
    have Mo := gmo z1 z2 hm
    rw [er] at Mo
    have sgn : r = 0 ∨ (¬ r = 0 ∧ decide (r < 0) = decide (n1 < 0)) := by
      by_cases h0 : r = 0
      · exact .inl h0
      · exact .inr ⟨h0, by simp only [hrs h0]⟩
    cases ei : idivZ n1 j1 n2 j2 with
    | none =>
      have I := gi z1 z2 hm
      rw [ei] at I
      exact even_core n1 j1 n2 j2 _ _ _ _ _ _ _ _ _ _ _ 0 0 53 r rk 0 0 0 0 _ w wake (gr a1 b1 r1) (gr a2 b2 r2) (ga z1 z2) A2 (gm z1 z2) M2 (gc z1 z2) (gc z2 z1) wy rfl hv (gs z1 z2) hS I Mo (.inr ⟨hm, rfl, sgn, .inl rfl⟩)
    | some q =>
      obtain ⟨q, qk⟩ := q
      obtain ⟨rfl, hq, qr⟩ := idiv_some ei
      have I := gi z1 z2 hm
      rw [ei] at I
      have P := gm qr z2
      cases ep : mulZ q 0 n2 j2 with
      | none =>
        rw [ep] at P
        exact even_core n1 j1 n2 j2 _ _ _ _ _ _ _ _ _ _ _ q 0 0 r rk 0 0 0 53 _ w wake (gr a1 b1 r1) (gr a2 b2 r2) (ga z1 z2) A2 (gm z1 z2) M2 (gc z1 z2) (gc z2 z1) wy rfl hv (gs z1 z2) hS I Mo (.inr ⟨hm, rfl, sgn, .inr ⟨rfl, rfl, P, .inl rfl⟩⟩)
      | some p =>
        obtain ⟨p, pk⟩ := p
        rw [ep] at P
        rw [hq] at ep
        have db := div_back z1 z2 hr hrv ep
        have A4 := ga db.1 hr
        rw [db.2] at A4
        exact even_core n1 j1 n2 j2 _ _ _ _ _ _ _ _ _ _ _ q 0 0 r rk 0 p pk 0 _ w wake (gr a1 b1 r1) (gr a2 b2 r2) (ga z1 z2) A2 (gm z1 z2) M2 (gc z1 z2) (gc z2 z1) wy rfl hv (gs z1 z2) hS I Mo (.inr ⟨hm, rfl, sgn, .inr ⟨rfl, rfl, P, .inr ⟨rfl, A4⟩⟩⟩)
end Go.Proofs
