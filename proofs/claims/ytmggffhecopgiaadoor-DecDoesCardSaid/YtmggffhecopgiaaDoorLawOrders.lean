/- The statement DecOrders answers true at every three numbers. No condition beyond what the theorems state. -/
import Derived.Test.YtmggffhecopgiaaDoorOrdersWalk
namespace Go.Proofs
open Go.Shelf Go.RowKit Go.Proofs.Wide
theorem wake : Hid (Gives 8 #[] (.bool true)) := gives_unfold fun w => awake_any w
theorem gr {n q : Int} {b : Bool} (hn : InI n) (hq : InI q) (h : rightB (n, q) = b) : Hid (Gives 10 #[.agg #[.int .i64 n, .int .i64 q]] (.bool b)) := gives_unfold fun w => by
  have := right_law n q hn hq w
  rw [h] at this
  exact this
theorem gc {n m : Int} {k l : Nat} (h : RightZ n k) (h' : RightZ m l) : Hid (Gives 25 #[.agg #[.int .i64 n, .int .i64 k], .agg #[.int .i64 m, .int .i64 l]] (.int .i64 (cmpZ n k m l))) := gives_unfold fun w => cmp_any n m k l h h' w
theorem ga {n m : Int} {k l : Nat} (h : RightZ n k) (h' : RightZ m l) : Hid (Gives 18 #[.agg #[.int .i64 n, .int .i64 k], .agg #[.int .i64 m, .int .i64 l]] (outV (addZ n k m l))) := gives_unfold fun w => add_any n m k l h h' w
theorem orders_law (n1 k1 n2 k2 n3 k3 : Int) (a1 : InI n1) (b1 : InI k1) (a2 : InI n2) (b2 : InI k2) (a3 : InI n3) (b3 : InI k3) (w : World) :
    Calls Tryd.prog 7 #[nv n1 k1, nv n2 k2, nv n3 k3] w fun e w' => e = .returned (.bool true) ∧ Below w.heap.size w w' := by
  cases r1 : rightB (n1, k1) with
  | false => exact orders_not0 n1 k1 n2 k2 n3 k3 w wake (gr a1 b1 r1)
  | true =>
  cases r2 : rightB (n2, k2) with
  | false => exact orders_not1 n1 k1 n2 k2 n3 k3 w wake (gr a1 b1 r1) (gr a2 b2 r2)
  | true =>
  cases r3 : rightB (n3, k3) with
  | false => exact orders_not2 n1 k1 n2 k2 n3 k3 w wake (gr a1 b1 r1) (gr a2 b2 r2) (gr a3 b3 r3)
  | true =>
  obtain ⟨j1, rfl, z1⟩ := right_of r1
  obtain ⟨j2, rfl, z2⟩ := right_of r2
  obtain ⟨j3, rfl, z3⟩ := right_of r3
  have l1 := z1.2.2.1
  have l2 := z2.2.2.1
  have l3 := z3.2.2.1
  have c1 := cmp_eq (n := n1) (m := n2) l1 l2
  have c2 := cmp_eq (n := n2) (m := n3) l2 l3
  have c3 := cmp_eq (n := n1) (m := n3) l1 l3
  refine orders_core n1 j1 n2 j2 n3 j3 (cmpZ n1 j1 n2 j2) (cmpZ n2 j2 n3 j3) (cmpZ n1 j1 n3 j3) _ _ _ _ _ _ w wake (gr a1 b1 r1) (gr a2 b2 r2) (gr a3 b3 r3) (gc z1 z2) (gc z2 z3) (gc z1 z3) ?_ ?_ (ga z1 z3) (ga z2 z3) ?_
  · rw [c1, c2, c3]; intro h1 h2; repeat' split at h1
    all_goals repeat' split at h2
    all_goals repeat' split
    all_goals omega
  · rw [c1, c2, c3]; intro h1 h2; repeat' split at h1
    all_goals repeat' split at h2
    all_goals repeat' split
    all_goals omega
  · cases e1 : addZ n1 j1 n3 j3 with
    | none => exact .inl (by unfold outE; decide)
    | some p =>
      obtain ⟨p1, p2⟩ := p
      have f1 := (add_some l1 l3).1 e1
      cases e2 : addZ n2 j2 n3 j3 with
      | none => exact .inr (.inl ⟨rfl, by unfold outE; decide⟩)
      | some q =>
        obtain ⟨q1, q2⟩ := q
        have f2 := (add_some l2 l3).1 e2
        refine .inr (.inr ⟨rfl, rfl, ?_⟩)
        have g := gc f1.1 f2.1
        rw [cmp_eq f1.1.2.2.1 f2.1.2.2.1, f1.2, f2.2] at g
        rw [c1]
        have e : (if v9 n1 j1 + v9 n3 j3 < v9 n2 j2 + v9 n3 j3 then (-1 : Int) else if v9 n1 j1 + v9 n3 j3 = v9 n2 j2 + v9 n3 j3 then 0 else 1) = if v9 n1 j1 < v9 n2 j2 then -1 else if v9 n1 j1 = v9 n2 j2 then 0 else 1 := by
          repeat' split
          all_goals omega
        rw [e] at g
        exact g
end Go.Proofs
