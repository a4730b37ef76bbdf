/- Package axis makes what yields an axis. No condition beyond what the theorems state. -/
import Derived.Test.YtcmlfkoeajpliaaDoorAxSteps
import Derived.RangeFuncNested
import Derived.RangeFuncBound
import Derived.RangeFuncCalls
import Derived.RangeFuncLeaves
import Derived.Shelf.Abstract
import Derived.Shelf.RegionOpen
import Derived.WalkKit
import Derived.OwnWalkIn
import Derived.TacticsInMore
import Derived.LoopNIn
import Derived.LoopIn
import Derived.Maps.AppendAt
namespace Go.Proofs.YtcmlfkoeajpliaaDoor
open Go.RowKit Go.Lib
set_option maxRecDepth 100000
set_option maxHeartbeats 8000000
/-- A function that yields, with what it holds. -/
def ChV (w0 w : World) (first : Int) (fv : Value) (v : Value) : Prop := ∃ b1 b2 : Nat, v = .func (.func 108) #[] #[.pointer (some ⟨b1, 0, none⟩), .pointer (some ⟨b2, 0, none⟩)] ∧ w0.heap.size ≤ b1 ∧ w0.heap.size ≤ b2 ∧ w.cell? ⟨b1, 0, none⟩ = some (.int .i64 first) ∧ w.cell? ⟨b2, 0, none⟩ = some fv
theorem none_any (m : Int) (w : World) : Calls Tryd.prog 87 #[.int .i64 m] w fun e w' => e = .returned (.int .i64 0) ∧ Below w.heap.size w w' := by
  go_enter Tryd.func87, Tryd.ntmps87
  go_wp2
  go_ret
  exact ⟨rfl, Below.refl _ _⟩
theorem chain_any (first : Int) (fv : Value) (hfv : fv.oneCell' = true) (w : World) : Calls Tryd.prog 88 #[.int .i64 first, fv] w fun e w' => ∃ v, e = .returned v ∧ ChV w w' first fv v ∧ Below w.heap.size w w' := by
  go_enter Tryd.func88, Tryd.ntmps88
  go_wp2
  go_ret
  refine ⟨_, rfl, ⟨w.heap.size, w.heap.size + 1, rfl, by simp, by simp, by simp, by simp⟩, ba (ba (Below.refl _ _))⟩
theorem ChV.base {w0 w1 w : World} {first : Int} {fv v : Value} (h : ChV w1 w first fv v) (hz : w0.heap.size ≤ w1.heap.size) : ChV w0 w first fv v := by
  obtain ⟨b1, b2, h1, h2, h3, h4, h5⟩ := h
  exact ⟨b1, b2, h1, by omega, by omega, h4, h5⟩
theorem ChV.call {w0 w w' : World} {first : Int} {fv v : Value} (h : ChV w0 w first fv v) (hb : Below w.heap.size w w') : ChV w0 w' first fv v := by
  obtain ⟨b1, b2, h1, h2, h3, h4, h5⟩ := h
  exact ⟨b1, b2, h1, h2, h3, cell_call h4 hb, cell_call h5 hb⟩
def Wk7I (w0 : World) (gb sb : Nat) (n first : Int) (c0 c2 c3 c4 c5 c7 c9 c10 c11 c12 c13 c14 c15 c16 c17 c18 c19 c20 c27 c28 c29 c30 c31 c32 c33 c34 c35 c36 c37 c38 c39 c40 c41 c42 c43 c44 c45 c46 c47 c48 c49 c50 c51 c52 c53 c54 c55 c56 c57 c58 c59 c60 c61 c62 c63 c64 c65 c66 c67 c68 c69 c70 c71 c72 c73 c74 c75 c76 c77 c78 c79 c80 c81 c82 c83 c84 c85 c86 c87 c88 c89 c90 c91 c92 : Value) (listed : Array Bool) (A : Act) (w : World) : Prop := ∃ (s6 s21 s22 s23 s24 s25 s26 : Value), A = { tmps := #[c0, .int .i64 n, c2, c3, c4, c5, s6, c7, .pointer (some ⟨gb, 0, none⟩), c9, c10, c11, c12, c13, c14, c15, c16, c17, c18, c19, c20, s21, s22, s23, s24, s25, s26, c27, c28, c29, c30, c31, c32, c33, c34, c35, c36, c37, c38, c39, c40, c41, c42, c43, c44, c45, c46, c47, c48, c49, c50, c51, c52, c53, c54, c55, c56, c57, c58, c59, c60, c61, c62, c63, c64, c65, c66, c67, c68, c69, c70, c71, c72, c73, c74, c75, c76, c77, c78, c79, c80, c81, c82, c83, c84, c85, c86, c87, c88, c89, c90, c91, c92], defers := [] } ∧
  (listed.getD 0 false = true → s21 = .agg #[.pointer (some ⟨sb, 0, none⟩), .int .i64 n]) ∧
  (listed.getD 1 false = true → s22 = .int .i64 n) ∧
  (listed.getD 2 false = true → s23 = .int .i64 first) ∧
  (listed.getD 3 false = true → s24 = .agg #[.pointer (some ⟨sb, 0, none⟩), .int .i64 n]) ∧
  (listed.getD 4 false = true → s25 = .func (.func 90) #[.agg #[.pointer (some ⟨sb, 0, none⟩), .int .i64 n]] #[]) ∧
  (listed.getD 5 false = true → ChV w0 w first (.func (.func 90) #[.agg #[.pointer (some ⟨sb, 0, none⟩), .int .i64 n]] #[]) s26) ∧
  (listed.getD 6 false = true → ChV w0 w first (.func (.func 90) #[.agg #[.pointer (some ⟨sb, 0, none⟩), .int .i64 n]] #[]) s6) ∧
  Below w0.heap.size w0 w ∧
  w.cell? ⟨gb, 0, none⟩ = some (.pointer (some ⟨sb, 0, none⟩)) ∧
  w.cell? ⟨gb, 1, none⟩ = some (.int .i64 n)
set_option maxRecDepth 100000 in
set_option maxHeartbeats 16000000 in
theorem Wk7_region (gb sb : Nat) (n first : Int) (x6 x21 x22 x23 x24 x25 x26 : Value) (c0 c2 c3 c4 c5 c7 c9 c10 c11 c12 c13 c14 c15 c16 c17 c18 c19 c20 c27 c28 c29 c30 c31 c32 c33 c34 c35 c36 c37 c38 c39 c40 c41 c42 c43 c44 c45 c46 c47 c48 c49 c50 c51 c52 c53 c54 c55 c56 c57 c58 c59 c60 c61 c62 c63 c64 c65 c66 c67 c68 c69 c70 c71 c72 c73 c74 c75 c76 c77 c78 c79 c80 c81 c82 c83 c84 c85 c86 c87 c88 c89 c90 c91 c92 : Value) (w0 W : World) (Q : Exit → Act → World → Prop) (hb0 : Below w0.heap.size w0 W) (C0 : W.cell? ⟨gb, 0, none⟩ = some (.pointer (some ⟨sb, 0, none⟩))) (C1 : W.cell? ⟨gb, 1, none⟩ = some (.int .i64 n)) (HI : Hid (∀ w1 : World, Below w0.heap.size w0 w1 → Calls Tryd.prog 89 #[.agg #[.pointer (some ⟨sb, 0, none⟩), .int .i64 n], .int .i64 n] w1 fun e' w' => e' = .returned (.int .i64 first) ∧ Below w1.heap.size w1 w'))
    (hQ : ∀ (w : World) (y26 y6 : Value) , (ChV w0 w first (.func (.func 90) #[.agg #[.pointer (some ⟨sb, 0, none⟩), .int .i64 n]] #[]) y6) → Below w0.heap.size w0 w → Q .normal { tmps := #[c0, .int .i64 n, c2, c3, c4, c5, y6, c7, .pointer (some ⟨gb, 0, none⟩), c9, c10, c11, c12, c13, c14, c15, c16, c17, c18, c19, c20, .agg #[.pointer (some ⟨sb, 0, none⟩), .int .i64 n], .int .i64 n, .int .i64 first, .agg #[.pointer (some ⟨sb, 0, none⟩), .int .i64 n], .func (.func 90) #[.agg #[.pointer (some ⟨sb, 0, none⟩), .int .i64 n]] #[], y26, c27, c28, c29, c30, c31, c32, c33, c34, c35, c36, c37, c38, c39, c40, c41, c42, c43, c44, c45, c46, c47, c48, c49, c50, c51, c52, c53, c54, c55, c56, c57, c58, c59, c60, c61, c62, c63, c64, c65, c66, c67, c68, c69, c70, c71, c72, c73, c74, c75, c76, c77, c78, c79, c80, c81, c82, c83, c84, c85, c86, c87, c88, c89, c90, c91, c92], defers := [] } w) :
    Code.wp Tryd.prog ((Tryd.f65.body.bind (regionOf 7)).getD .skip) Q { tmps := #[c0, .int .i64 n, c2, c3, c4, c5, x6, c7, .pointer (some ⟨gb, 0, none⟩), c9, c10, c11, c12, c13, c14, c15, c16, c17, c18, c19, c20, x21, x22, x23, x24, x25, x26, c27, c28, c29, c30, c31, c32, c33, c34, c35, c36, c37, c38, c39, c40, c41, c42, c43, c44, c45, c46, c47, c48, c49, c50, c51, c52, c53, c54, c55, c56, c57, c58, c59, c60, c61, c62, c63, c64, c65, c66, c67, c68, c69, c70, c71, c72, c73, c74, c75, c76, c77, c78, c79, c80, c81, c82, c83, c84, c85, c86, c87, c88, c89, c90, c91, c92], defers := [] } W := by
  conv => arg 2; whnf
  refine wp_region_inv (by kernel_rfl) (by kernel_rfl) (Wk7I w0 gb sb n first c0 c2 c3 c4 c5 c7 c9 c10 c11 c12 c13 c14 c15 c16 c17 c18 c19 c20 c27 c28 c29 c30 c31 c32 c33 c34 c35 c36 c37 c38 c39 c40 c41 c42 c43 c44 c45 c46 c47 c48 c49 c50 c51 c52 c53 c54 c55 c56 c57 c58 c59 c60 c61 c62 c63 c64 c65 c66 c67 c68 c69 c70 c71 c72 c73 c74 c75 c76 c77 c78 c79 c80 c81 c82 c83 c84 c85 c86 c87 c88 c89 c90 c91 c92) ?_ ?_ ?_
  · exact ⟨_, _, _, _, _, _, _, rfl, fun h => absurd h l0, fun h => absurd h l0, fun h => absurd h l0, fun h => absurd h l0, fun h => absurd h l0, fun h => absurd h l0, fun h => absurd h l0, bdr hb0, C0, C1⟩
  · intro i o listed A w hi ho hd hn hI
    unfold Wk7I at hI
    obtain ⟨s6, hI⟩ := hI
    obtain ⟨s21, hI⟩ := hI
    obtain ⟨s22, hI⟩ := hI
    obtain ⟨s23, hI⟩ := hI
    obtain ⟨s24, hI⟩ := hI
    obtain ⟨s25, hI⟩ := hI
    obtain ⟨s26, hI⟩ := hI
    obtain ⟨rfl, hI⟩ := hI
    obtain ⟨F0, hI⟩ := hI
    obtain ⟨F1, hI⟩ := hI
    obtain ⟨F2, hI⟩ := hI
    obtain ⟨F3, hI⟩ := hI
    obtain ⟨F4, hI⟩ := hI
    obtain ⟨F5, hI⟩ := hI
    obtain ⟨F6, hI⟩ := hI
    obtain ⟨F7, hI⟩ := hI
    obtain ⟨F8, hI⟩ := hI
    have F9 := hI; clear hI
    have hi' : i < 7 := hi
    clear hi
    rcases (by omega : i = 0 ∨ i = 1 ∨ i = 2 ∨ i = 3 ∨ i = 4 ∨ i = 5 ∨ i = 6) with rfl | rfl | rfl | rfl | rfl | rfl | rfl
    · simp only [List.getElem?_toArray, List.getElem?_cons_zero, Option.some.injEq] at ho
      subst ho
      have h0 := F8; have h1 := F9
      refine wpOp_step rfl (fun K hK => ?_)
      go_simp
      refine hK _ _ ?_
      exact ⟨_, _, _, _, _, _, _, rfl, fun _ => rfl, lk F1, lk F2, lk F3, lk F4, fun h => F5 (ls (by decide) h), fun h => F6 (ls (by decide) h), F7, F8, F9⟩
    · simp only [List.getElem?_toArray, List.getElem?_cons_zero, List.getElem?_cons_succ, Option.some.injEq] at ho
      subst ho
      refine wpOp_step rfl (fun K hK => ?_)
      go_simp
      refine hK _ _ ?_
      exact ⟨_, _, _, _, _, _, _, rfl, lk F0, fun _ => rfl, lk F2, lk F3, lk F4, fun h => F5 (ls (by decide) h), fun h => F6 (ls (by decide) h), F7, F8, F9⟩
    · simp only [List.getElem?_toArray, List.getElem?_cons_zero, List.getElem?_cons_succ, Option.some.injEq] at ho
      subst ho
      obtain rfl := F0 (hd ⟨0, .data⟩ (by simp) rfl)
      obtain rfl := F1 (hd ⟨1, .data⟩ (by simp) rfl)
      refine wpOp_step rfl (fun K hK => ?_)
      go_simp
      go_at_call 89
      refine (HI.out _ (by exact F7)).mono ?_
      rintro e' w' ⟨rfl, hb⟩
      refine hK _ _ ?_
      exact ⟨_, _, _, _, _, _, _, rfl, lk F0, lk F1, fun _ => rfl, lk F3, lk F4, fun h => ChV.call (F5 (ls (by decide) h)) hb, fun h => ChV.call (F6 (ls (by decide) h)) hb, bt F7 hb, cell_call F8 hb, cell_call F9 hb⟩
    · simp only [List.getElem?_toArray, List.getElem?_cons_zero, List.getElem?_cons_succ, Option.some.injEq] at ho
      subst ho
      have h0 := F8; have h1 := F9
      refine wpOp_step rfl (fun K hK => ?_)
      go_simp
      refine hK _ _ ?_
      exact ⟨_, _, _, _, _, _, _, rfl, lk F0, lk F1, lk F2, fun _ => rfl, lk F4, fun h => F5 (ls (by decide) h), fun h => F6 (ls (by decide) h), F7, F8, F9⟩
    · simp only [List.getElem?_toArray, List.getElem?_cons_zero, List.getElem?_cons_succ, Option.some.injEq] at ho
      subst ho
      obtain rfl := F3 (hd ⟨3, .data⟩ (by simp) rfl)
      refine wpOp_step rfl (fun K hK => ?_)
      go_simp
      refine hK _ _ ?_
      exact ⟨_, _, _, _, _, _, _, rfl, lk F0, lk F1, lk F2, lk F3, fun _ => rfl, fun h => F5 (ls (by decide) h), fun h => F6 (ls (by decide) h), F7, F8, F9⟩
    · simp only [List.getElem?_toArray, List.getElem?_cons_zero, List.getElem?_cons_succ, Option.some.injEq] at ho
      subst ho
      obtain rfl := F2 (hd ⟨2, .data⟩ (by simp) rfl)
      obtain rfl := F4 (hd ⟨4, .data⟩ (by simp) rfl)
      refine wpOp_step rfl (fun K hK => ?_)
      go_simp
      go_at_call 88
      refine (chain_any first (.func (.func 90) #[.agg #[.pointer (some ⟨sb, 0, none⟩), .int .i64 n]] #[]) rfl _).mono ?_
      rintro e' w' ⟨v', rfl, hch, hb⟩
      refine hK _ _ ?_
      exact ⟨_, _, _, _, _, _, _, rfl, lk F0, lk F1, lk F2, lk F3, lk F4, fun _ => hch.base (by have := F7.size; omega), fun h => ChV.call (F6 (ls (by decide) h)) hb, bt F7 hb, cell_call F8 hb, cell_call F9 hb⟩
    · simp only [List.getElem?_toArray, List.getElem?_cons_zero, List.getElem?_cons_succ, Option.some.injEq] at ho
      subst ho
      obtain ⟨b1, b2, rfl, p1, p2, p3, p4⟩ := F5 (hd ⟨5, .data⟩ (by simp) rfl)
      refine wpOp_step rfl (fun K hK => ?_)
      go_simp
      refine hK _ _ ?_
      exact ⟨_, _, _, _, _, _, _, rfl, lk F0, lk F1, lk F2, lk F3, lk F4, fun h => F5 (ls (by decide) h), fun _ => ⟨b1, b2, rfl, p1, p2, p3, p4⟩, F7, F8, F9⟩
  · intro listed A w hall hI
    unfold Wk7I at hI
    obtain ⟨s6, hI⟩ := hI
    obtain ⟨s21, hI⟩ := hI
    obtain ⟨s22, hI⟩ := hI
    obtain ⟨s23, hI⟩ := hI
    obtain ⟨s24, hI⟩ := hI
    obtain ⟨s25, hI⟩ := hI
    obtain ⟨s26, hI⟩ := hI
    obtain ⟨rfl, hI⟩ := hI
    obtain ⟨F0, hI⟩ := hI
    obtain ⟨F1, hI⟩ := hI
    obtain ⟨F2, hI⟩ := hI
    obtain ⟨F3, hI⟩ := hI
    obtain ⟨F4, hI⟩ := hI
    obtain ⟨F5, hI⟩ := hI
    obtain ⟨F6, hI⟩ := hI
    obtain ⟨F7, hI⟩ := hI
    obtain ⟨F8, hI⟩ := hI
    have F9 := hI; clear hI
    obtain rfl := F0 (hall 0 (by decide))
    obtain rfl := F1 (hall 1 (by decide))
    obtain rfl := F2 (hall 2 (by decide))
    obtain rfl := F3 (hall 3 (by decide))
    obtain rfl := F4 (hall 4 (by decide))
    have P5 := F5 (hall 5 (by decide))
    have P6 := F6 (hall 6 (by decide))
    have HB := F7
    have Q0 := F8
    have Q1 := F9
    exact hQ _ _ _ P6 HB
def Wk9I (w0 : World) (gb sb : Nat) (n first : Int) (c0 c2 c3 c4 c5 c7 c9 c10 c11 c12 c13 c14 c15 c16 c17 c18 c19 c20 c21 c22 c23 c24 c25 c26 c27 c28 c35 c36 c37 c38 c39 c40 c41 c42 c43 c44 c45 c46 c47 c48 c49 c50 c51 c52 c53 c54 c55 c56 c57 c58 c59 c60 c61 c62 c63 c64 c65 c66 c67 c68 c69 c70 c71 c72 c73 c74 c75 c76 c77 c78 c79 c80 c81 c82 c83 c84 c85 c86 c87 c88 c89 c90 c91 c92 : Value) (listed : Array Bool) (A : Act) (w : World) : Prop := ∃ (s6 s29 s30 s31 s32 s33 s34 : Value), A = { tmps := #[c0, .int .i64 n, c2, c3, c4, c5, s6, c7, .pointer (some ⟨gb, 0, none⟩), c9, c10, c11, c12, c13, c14, c15, c16, c17, c18, c19, c20, c21, c22, c23, c24, c25, c26, c27, c28, s29, s30, s31, s32, s33, s34, c35, c36, c37, c38, c39, c40, c41, c42, c43, c44, c45, c46, c47, c48, c49, c50, c51, c52, c53, c54, c55, c56, c57, c58, c59, c60, c61, c62, c63, c64, c65, c66, c67, c68, c69, c70, c71, c72, c73, c74, c75, c76, c77, c78, c79, c80, c81, c82, c83, c84, c85, c86, c87, c88, c89, c90, c91, c92], defers := [] } ∧
  (listed.getD 0 false = true → s29 = .agg #[.pointer (some ⟨sb, 0, none⟩), .int .i64 n]) ∧
  (listed.getD 1 false = true → s30 = .int .i64 n) ∧
  (listed.getD 2 false = true → s31 = .int .i64 first) ∧
  (listed.getD 3 false = true → s32 = .agg #[.pointer (some ⟨sb, 0, none⟩), .int .i64 n]) ∧
  (listed.getD 4 false = true → s33 = .func (.func 89) #[.agg #[.pointer (some ⟨sb, 0, none⟩), .int .i64 n]] #[]) ∧
  (listed.getD 5 false = true → ChV w0 w first (.func (.func 89) #[.agg #[.pointer (some ⟨sb, 0, none⟩), .int .i64 n]] #[]) s34) ∧
  (listed.getD 6 false = true → ChV w0 w first (.func (.func 89) #[.agg #[.pointer (some ⟨sb, 0, none⟩), .int .i64 n]] #[]) s6) ∧
  Below w0.heap.size w0 w ∧
  w.cell? ⟨gb, 0, none⟩ = some (.pointer (some ⟨sb, 0, none⟩)) ∧
  w.cell? ⟨gb, 1, none⟩ = some (.int .i64 n)
set_option maxRecDepth 100000 in
set_option maxHeartbeats 16000000 in
theorem Wk9_region (gb sb : Nat) (n first : Int) (x6 x29 x30 x31 x32 x33 x34 : Value) (c0 c2 c3 c4 c5 c7 c9 c10 c11 c12 c13 c14 c15 c16 c17 c18 c19 c20 c21 c22 c23 c24 c25 c26 c27 c28 c35 c36 c37 c38 c39 c40 c41 c42 c43 c44 c45 c46 c47 c48 c49 c50 c51 c52 c53 c54 c55 c56 c57 c58 c59 c60 c61 c62 c63 c64 c65 c66 c67 c68 c69 c70 c71 c72 c73 c74 c75 c76 c77 c78 c79 c80 c81 c82 c83 c84 c85 c86 c87 c88 c89 c90 c91 c92 : Value) (w0 W : World) (Q : Exit → Act → World → Prop) (hb0 : Below w0.heap.size w0 W) (C0 : W.cell? ⟨gb, 0, none⟩ = some (.pointer (some ⟨sb, 0, none⟩))) (C1 : W.cell? ⟨gb, 1, none⟩ = some (.int .i64 n)) (HI : Hid (∀ w1 : World, Below w0.heap.size w0 w1 → Calls Tryd.prog 89 #[.agg #[.pointer (some ⟨sb, 0, none⟩), .int .i64 n], .int .i64 n] w1 fun e' w' => e' = .returned (.int .i64 first) ∧ Below w1.heap.size w1 w'))
    (hQ : ∀ (w : World) (y34 y6 : Value) , (ChV w0 w first (.func (.func 89) #[.agg #[.pointer (some ⟨sb, 0, none⟩), .int .i64 n]] #[]) y6) → Below w0.heap.size w0 w → Q .normal { tmps := #[c0, .int .i64 n, c2, c3, c4, c5, y6, c7, .pointer (some ⟨gb, 0, none⟩), c9, c10, c11, c12, c13, c14, c15, c16, c17, c18, c19, c20, c21, c22, c23, c24, c25, c26, c27, c28, .agg #[.pointer (some ⟨sb, 0, none⟩), .int .i64 n], .int .i64 n, .int .i64 first, .agg #[.pointer (some ⟨sb, 0, none⟩), .int .i64 n], .func (.func 89) #[.agg #[.pointer (some ⟨sb, 0, none⟩), .int .i64 n]] #[], y34, c35, c36, c37, c38, c39, c40, c41, c42, c43, c44, c45, c46, c47, c48, c49, c50, c51, c52, c53, c54, c55, c56, c57, c58, c59, c60, c61, c62, c63, c64, c65, c66, c67, c68, c69, c70, c71, c72, c73, c74, c75, c76, c77, c78, c79, c80, c81, c82, c83, c84, c85, c86, c87, c88, c89, c90, c91, c92], defers := [] } w) :
    Code.wp Tryd.prog ((Tryd.f65.body.bind (regionOf 9)).getD .skip) Q { tmps := #[c0, .int .i64 n, c2, c3, c4, c5, x6, c7, .pointer (some ⟨gb, 0, none⟩), c9, c10, c11, c12, c13, c14, c15, c16, c17, c18, c19, c20, c21, c22, c23, c24, c25, c26, c27, c28, x29, x30, x31, x32, x33, x34, c35, c36, c37, c38, c39, c40, c41, c42, c43, c44, c45, c46, c47, c48, c49, c50, c51, c52, c53, c54, c55, c56, c57, c58, c59, c60, c61, c62, c63, c64, c65, c66, c67, c68, c69, c70, c71, c72, c73, c74, c75, c76, c77, c78, c79, c80, c81, c82, c83, c84, c85, c86, c87, c88, c89, c90, c91, c92], defers := [] } W := by
  conv => arg 2; whnf
  refine wp_region_inv (by kernel_rfl) (by kernel_rfl) (Wk9I w0 gb sb n first c0 c2 c3 c4 c5 c7 c9 c10 c11 c12 c13 c14 c15 c16 c17 c18 c19 c20 c21 c22 c23 c24 c25 c26 c27 c28 c35 c36 c37 c38 c39 c40 c41 c42 c43 c44 c45 c46 c47 c48 c49 c50 c51 c52 c53 c54 c55 c56 c57 c58 c59 c60 c61 c62 c63 c64 c65 c66 c67 c68 c69 c70 c71 c72 c73 c74 c75 c76 c77 c78 c79 c80 c81 c82 c83 c84 c85 c86 c87 c88 c89 c90 c91 c92) ?_ ?_ ?_
  · exact ⟨_, _, _, _, _, _, _, rfl, fun h => absurd h l0, fun h => absurd h l0, fun h => absurd h l0, fun h => absurd h l0, fun h => absurd h l0, fun h => absurd h l0, fun h => absurd h l0, bdr hb0, C0, C1⟩
  · intro i o listed A w hi ho hd hn hI
    unfold Wk9I at hI
    obtain ⟨s6, hI⟩ := hI
    obtain ⟨s29, hI⟩ := hI
    obtain ⟨s30, hI⟩ := hI
    obtain ⟨s31, hI⟩ := hI
    obtain ⟨s32, hI⟩ := hI
    obtain ⟨s33, hI⟩ := hI
    obtain ⟨s34, hI⟩ := hI
    obtain ⟨rfl, hI⟩ := hI
    obtain ⟨F0, hI⟩ := hI
    obtain ⟨F1, hI⟩ := hI
    obtain ⟨F2, hI⟩ := hI
    obtain ⟨F3, hI⟩ := hI
    obtain ⟨F4, hI⟩ := hI
    obtain ⟨F5, hI⟩ := hI
    obtain ⟨F6, hI⟩ := hI
    obtain ⟨F7, hI⟩ := hI
    obtain ⟨F8, hI⟩ := hI
    have F9 := hI; clear hI
    have hi' : i < 7 := hi
    clear hi
    rcases (by omega : i = 0 ∨ i = 1 ∨ i = 2 ∨ i = 3 ∨ i = 4 ∨ i = 5 ∨ i = 6) with rfl | rfl | rfl | rfl | rfl | rfl | rfl
    · simp only [List.getElem?_toArray, List.getElem?_cons_zero, Option.some.injEq] at ho
      subst ho
      have h0 := F8; have h1 := F9
      refine wpOp_step rfl (fun K hK => ?_)
      go_simp
      refine hK _ _ ?_
      exact ⟨_, _, _, _, _, _, _, rfl, fun _ => rfl, lk F1, lk F2, lk F3, lk F4, fun h => F5 (ls (by decide) h), fun h => F6 (ls (by decide) h), F7, F8, F9⟩
    · simp only [List.getElem?_toArray, List.getElem?_cons_zero, List.getElem?_cons_succ, Option.some.injEq] at ho
      subst ho
      refine wpOp_step rfl (fun K hK => ?_)
      go_simp
      refine hK _ _ ?_
      exact ⟨_, _, _, _, _, _, _, rfl, lk F0, fun _ => rfl, lk F2, lk F3, lk F4, fun h => F5 (ls (by decide) h), fun h => F6 (ls (by decide) h), F7, F8, F9⟩
    · simp only [List.getElem?_toArray, List.getElem?_cons_zero, List.getElem?_cons_succ, Option.some.injEq] at ho
      subst ho
      obtain rfl := F0 (hd ⟨0, .data⟩ (by simp) rfl)
      obtain rfl := F1 (hd ⟨1, .data⟩ (by simp) rfl)
      refine wpOp_step rfl (fun K hK => ?_)
      go_simp
      go_at_call 89
      refine (HI.out _ (by exact F7)).mono ?_
      rintro e' w' ⟨rfl, hb⟩
      refine hK _ _ ?_
      exact ⟨_, _, _, _, _, _, _, rfl, lk F0, lk F1, fun _ => rfl, lk F3, lk F4, fun h => ChV.call (F5 (ls (by decide) h)) hb, fun h => ChV.call (F6 (ls (by decide) h)) hb, bt F7 hb, cell_call F8 hb, cell_call F9 hb⟩
    · simp only [List.getElem?_toArray, List.getElem?_cons_zero, List.getElem?_cons_succ, Option.some.injEq] at ho
      subst ho
      have h0 := F8; have h1 := F9
      refine wpOp_step rfl (fun K hK => ?_)
      go_simp
      refine hK _ _ ?_
      exact ⟨_, _, _, _, _, _, _, rfl, lk F0, lk F1, lk F2, fun _ => rfl, lk F4, fun h => F5 (ls (by decide) h), fun h => F6 (ls (by decide) h), F7, F8, F9⟩
    · simp only [List.getElem?_toArray, List.getElem?_cons_zero, List.getElem?_cons_succ, Option.some.injEq] at ho
      subst ho
      obtain rfl := F3 (hd ⟨3, .data⟩ (by simp) rfl)
      refine wpOp_step rfl (fun K hK => ?_)
      go_simp
      refine hK _ _ ?_
      exact ⟨_, _, _, _, _, _, _, rfl, lk F0, lk F1, lk F2, lk F3, fun _ => rfl, fun h => F5 (ls (by decide) h), fun h => F6 (ls (by decide) h), F7, F8, F9⟩
    · simp only [List.getElem?_toArray, List.getElem?_cons_zero, List.getElem?_cons_succ, Option.some.injEq] at ho
      subst ho
      obtain rfl := F2 (hd ⟨2, .data⟩ (by simp) rfl)
      obtain rfl := F4 (hd ⟨4, .data⟩ (by simp) rfl)
      refine wpOp_step rfl (fun K hK => ?_)
      go_simp
      go_at_call 88
      refine (chain_any first (.func (.func 89) #[.agg #[.pointer (some ⟨sb, 0, none⟩), .int .i64 n]] #[]) rfl _).mono ?_
      rintro e' w' ⟨v', rfl, hch, hb⟩
      refine hK _ _ ?_
      exact ⟨_, _, _, _, _, _, _, rfl, lk F0, lk F1, lk F2, lk F3, lk F4, fun _ => hch.base (by have := F7.size; omega), fun h => ChV.call (F6 (ls (by decide) h)) hb, bt F7 hb, cell_call F8 hb, cell_call F9 hb⟩
    · simp only [List.getElem?_toArray, List.getElem?_cons_zero, List.getElem?_cons_succ, Option.some.injEq] at ho
      subst ho
      obtain ⟨b1, b2, rfl, p1, p2, p3, p4⟩ := F5 (hd ⟨5, .data⟩ (by simp) rfl)
      refine wpOp_step rfl (fun K hK => ?_)
      go_simp
      refine hK _ _ ?_
      exact ⟨_, _, _, _, _, _, _, rfl, lk F0, lk F1, lk F2, lk F3, lk F4, fun h => F5 (ls (by decide) h), fun _ => ⟨b1, b2, rfl, p1, p2, p3, p4⟩, F7, F8, F9⟩
  · intro listed A w hall hI
    unfold Wk9I at hI
    obtain ⟨s6, hI⟩ := hI
    obtain ⟨s29, hI⟩ := hI
    obtain ⟨s30, hI⟩ := hI
    obtain ⟨s31, hI⟩ := hI
    obtain ⟨s32, hI⟩ := hI
    obtain ⟨s33, hI⟩ := hI
    obtain ⟨s34, hI⟩ := hI
    obtain ⟨rfl, hI⟩ := hI
    obtain ⟨F0, hI⟩ := hI
    obtain ⟨F1, hI⟩ := hI
    obtain ⟨F2, hI⟩ := hI
    obtain ⟨F3, hI⟩ := hI
    obtain ⟨F4, hI⟩ := hI
    obtain ⟨F5, hI⟩ := hI
    obtain ⟨F6, hI⟩ := hI
    obtain ⟨F7, hI⟩ := hI
    obtain ⟨F8, hI⟩ := hI
    have F9 := hI; clear hI
    obtain rfl := F0 (hall 0 (by decide))
    obtain rfl := F1 (hall 1 (by decide))
    obtain rfl := F2 (hall 2 (by decide))
    obtain rfl := F3 (hall 3 (by decide))
    obtain rfl := F4 (hall 4 (by decide))
    have P5 := F5 (hall 5 (by decide))
    have P6 := F6 (hall 6 (by decide))
    have HB := F7
    have Q0 := F8
    have Q1 := F9
    exact hQ _ _ _ P6 HB
def Wk11I (w0 : World) (gb sb : Nat) (n first : Int) (c0 c2 c3 c4 c5 c7 c9 c10 c11 c12 c13 c14 c15 c16 c17 c18 c19 c20 c21 c22 c23 c24 c25 c26 c27 c28 c29 c30 c31 c32 c33 c34 c35 c36 c43 c44 c45 c46 c47 c48 c49 c50 c51 c52 c53 c54 c55 c56 c57 c58 c59 c60 c61 c62 c63 c64 c65 c66 c67 c68 c69 c70 c71 c72 c73 c74 c75 c76 c77 c78 c79 c80 c81 c82 c83 c84 c85 c86 c87 c88 c89 c90 c91 c92 : Value) (listed : Array Bool) (A : Act) (w : World) : Prop := ∃ (s6 s37 s38 s39 s40 s41 s42 : Value), A = { tmps := #[c0, .int .i64 n, c2, c3, c4, c5, s6, c7, .pointer (some ⟨gb, 0, none⟩), c9, c10, c11, c12, c13, c14, c15, c16, c17, c18, c19, c20, c21, c22, c23, c24, c25, c26, c27, c28, c29, c30, c31, c32, c33, c34, c35, c36, s37, s38, s39, s40, s41, s42, c43, c44, c45, c46, c47, c48, c49, c50, c51, c52, c53, c54, c55, c56, c57, c58, c59, c60, c61, c62, c63, c64, c65, c66, c67, c68, c69, c70, c71, c72, c73, c74, c75, c76, c77, c78, c79, c80, c81, c82, c83, c84, c85, c86, c87, c88, c89, c90, c91, c92], defers := [] } ∧
  (listed.getD 0 false = true → s37 = .agg #[.pointer (some ⟨sb, 0, none⟩), .int .i64 n]) ∧
  (listed.getD 1 false = true → s38 = .int .i64 n) ∧
  (listed.getD 2 false = true → s39 = .int .i64 first) ∧
  (listed.getD 3 false = true → s40 = .agg #[.pointer (some ⟨sb, 0, none⟩), .int .i64 n]) ∧
  (listed.getD 4 false = true → s41 = .func (.func 91) #[.agg #[.pointer (some ⟨sb, 0, none⟩), .int .i64 n]] #[]) ∧
  (listed.getD 5 false = true → ChV w0 w first (.func (.func 91) #[.agg #[.pointer (some ⟨sb, 0, none⟩), .int .i64 n]] #[]) s42) ∧
  (listed.getD 6 false = true → ChV w0 w first (.func (.func 91) #[.agg #[.pointer (some ⟨sb, 0, none⟩), .int .i64 n]] #[]) s6) ∧
  Below w0.heap.size w0 w ∧
  w.cell? ⟨gb, 0, none⟩ = some (.pointer (some ⟨sb, 0, none⟩)) ∧
  w.cell? ⟨gb, 1, none⟩ = some (.int .i64 n)
set_option maxRecDepth 100000 in
set_option maxHeartbeats 16000000 in
theorem Wk11_region (gb sb : Nat) (n first : Int) (x6 x37 x38 x39 x40 x41 x42 : Value) (c0 c2 c3 c4 c5 c7 c9 c10 c11 c12 c13 c14 c15 c16 c17 c18 c19 c20 c21 c22 c23 c24 c25 c26 c27 c28 c29 c30 c31 c32 c33 c34 c35 c36 c43 c44 c45 c46 c47 c48 c49 c50 c51 c52 c53 c54 c55 c56 c57 c58 c59 c60 c61 c62 c63 c64 c65 c66 c67 c68 c69 c70 c71 c72 c73 c74 c75 c76 c77 c78 c79 c80 c81 c82 c83 c84 c85 c86 c87 c88 c89 c90 c91 c92 : Value) (w0 W : World) (Q : Exit → Act → World → Prop) (hb0 : Below w0.heap.size w0 W) (C0 : W.cell? ⟨gb, 0, none⟩ = some (.pointer (some ⟨sb, 0, none⟩))) (C1 : W.cell? ⟨gb, 1, none⟩ = some (.int .i64 n)) (HI : Hid (∀ w1 : World, Below w0.heap.size w0 w1 → Calls Tryd.prog 91 #[.agg #[.pointer (some ⟨sb, 0, none⟩), .int .i64 n], .int .i64 n] w1 fun e' w' => e' = .returned (.int .i64 first) ∧ Below w1.heap.size w1 w'))
    (hQ : ∀ (w : World) (y42 y6 : Value) , (ChV w0 w first (.func (.func 91) #[.agg #[.pointer (some ⟨sb, 0, none⟩), .int .i64 n]] #[]) y6) → Below w0.heap.size w0 w → Q .normal { tmps := #[c0, .int .i64 n, c2, c3, c4, c5, y6, c7, .pointer (some ⟨gb, 0, none⟩), c9, c10, c11, c12, c13, c14, c15, c16, c17, c18, c19, c20, c21, c22, c23, c24, c25, c26, c27, c28, c29, c30, c31, c32, c33, c34, c35, c36, .agg #[.pointer (some ⟨sb, 0, none⟩), .int .i64 n], .int .i64 n, .int .i64 first, .agg #[.pointer (some ⟨sb, 0, none⟩), .int .i64 n], .func (.func 91) #[.agg #[.pointer (some ⟨sb, 0, none⟩), .int .i64 n]] #[], y42, c43, c44, c45, c46, c47, c48, c49, c50, c51, c52, c53, c54, c55, c56, c57, c58, c59, c60, c61, c62, c63, c64, c65, c66, c67, c68, c69, c70, c71, c72, c73, c74, c75, c76, c77, c78, c79, c80, c81, c82, c83, c84, c85, c86, c87, c88, c89, c90, c91, c92], defers := [] } w) :
    Code.wp Tryd.prog ((Tryd.f65.body.bind (regionOf 11)).getD .skip) Q { tmps := #[c0, .int .i64 n, c2, c3, c4, c5, x6, c7, .pointer (some ⟨gb, 0, none⟩), c9, c10, c11, c12, c13, c14, c15, c16, c17, c18, c19, c20, c21, c22, c23, c24, c25, c26, c27, c28, c29, c30, c31, c32, c33, c34, c35, c36, x37, x38, x39, x40, x41, x42, c43, c44, c45, c46, c47, c48, c49, c50, c51, c52, c53, c54, c55, c56, c57, c58, c59, c60, c61, c62, c63, c64, c65, c66, c67, c68, c69, c70, c71, c72, c73, c74, c75, c76, c77, c78, c79, c80, c81, c82, c83, c84, c85, c86, c87, c88, c89, c90, c91, c92], defers := [] } W := by
  conv => arg 2; whnf
  refine wp_region_inv (by kernel_rfl) (by kernel_rfl) (Wk11I w0 gb sb n first c0 c2 c3 c4 c5 c7 c9 c10 c11 c12 c13 c14 c15 c16 c17 c18 c19 c20 c21 c22 c23 c24 c25 c26 c27 c28 c29 c30 c31 c32 c33 c34 c35 c36 c43 c44 c45 c46 c47 c48 c49 c50 c51 c52 c53 c54 c55 c56 c57 c58 c59 c60 c61 c62 c63 c64 c65 c66 c67 c68 c69 c70 c71 c72 c73 c74 c75 c76 c77 c78 c79 c80 c81 c82 c83 c84 c85 c86 c87 c88 c89 c90 c91 c92) ?_ ?_ ?_
  · exact ⟨_, _, _, _, _, _, _, rfl, fun h => absurd h l0, fun h => absurd h l0, fun h => absurd h l0, fun h => absurd h l0, fun h => absurd h l0, fun h => absurd h l0, fun h => absurd h l0, bdr hb0, C0, C1⟩
  · intro i o listed A w hi ho hd hn hI
    unfold Wk11I at hI
    obtain ⟨s6, hI⟩ := hI
    obtain ⟨s37, hI⟩ := hI
    obtain ⟨s38, hI⟩ := hI
    obtain ⟨s39, hI⟩ := hI
    obtain ⟨s40, hI⟩ := hI
    obtain ⟨s41, hI⟩ := hI
    obtain ⟨s42, hI⟩ := hI
    obtain ⟨rfl, hI⟩ := hI
    obtain ⟨F0, hI⟩ := hI
    obtain ⟨F1, hI⟩ := hI
    obtain ⟨F2, hI⟩ := hI
    obtain ⟨F3, hI⟩ := hI
    obtain ⟨F4, hI⟩ := hI
    obtain ⟨F5, hI⟩ := hI
    obtain ⟨F6, hI⟩ := hI
    obtain ⟨F7, hI⟩ := hI
    obtain ⟨F8, hI⟩ := hI
    have F9 := hI; clear hI
    have hi' : i < 7 := hi
    clear hi
    rcases (by omega : i = 0 ∨ i = 1 ∨ i = 2 ∨ i = 3 ∨ i = 4 ∨ i = 5 ∨ i = 6) with rfl | rfl | rfl | rfl | rfl | rfl | rfl
    · simp only [List.getElem?_toArray, List.getElem?_cons_zero, Option.some.injEq] at ho
      subst ho
      have h0 := F8; have h1 := F9
      refine wpOp_step rfl (fun K hK => ?_)
      go_simp
      refine hK _ _ ?_
      exact ⟨_, _, _, _, _, _, _, rfl, fun _ => rfl, lk F1, lk F2, lk F3, lk F4, fun h => F5 (ls (by decide) h), fun h => F6 (ls (by decide) h), F7, F8, F9⟩
    · simp only [List.getElem?_toArray, List.getElem?_cons_zero, List.getElem?_cons_succ, Option.some.injEq] at ho
      subst ho
      refine wpOp_step rfl (fun K hK => ?_)
      go_simp
      refine hK _ _ ?_
      exact ⟨_, _, _, _, _, _, _, rfl, lk F0, fun _ => rfl, lk F2, lk F3, lk F4, fun h => F5 (ls (by decide) h), fun h => F6 (ls (by decide) h), F7, F8, F9⟩
    · simp only [List.getElem?_toArray, List.getElem?_cons_zero, List.getElem?_cons_succ, Option.some.injEq] at ho
      subst ho
      obtain rfl := F0 (hd ⟨0, .data⟩ (by simp) rfl)
      obtain rfl := F1 (hd ⟨1, .data⟩ (by simp) rfl)
      refine wpOp_step rfl (fun K hK => ?_)
      go_simp
      go_at_call 91
      refine (HI.out _ (by exact F7)).mono ?_
      rintro e' w' ⟨rfl, hb⟩
      refine hK _ _ ?_
      exact ⟨_, _, _, _, _, _, _, rfl, lk F0, lk F1, fun _ => rfl, lk F3, lk F4, fun h => ChV.call (F5 (ls (by decide) h)) hb, fun h => ChV.call (F6 (ls (by decide) h)) hb, bt F7 hb, cell_call F8 hb, cell_call F9 hb⟩
    · simp only [List.getElem?_toArray, List.getElem?_cons_zero, List.getElem?_cons_succ, Option.some.injEq] at ho
      subst ho
      have h0 := F8; have h1 := F9
      refine wpOp_step rfl (fun K hK => ?_)
      go_simp
      refine hK _ _ ?_
      exact ⟨_, _, _, _, _, _, _, rfl, lk F0, lk F1, lk F2, fun _ => rfl, lk F4, fun h => F5 (ls (by decide) h), fun h => F6 (ls (by decide) h), F7, F8, F9⟩
    · simp only [List.getElem?_toArray, List.getElem?_cons_zero, List.getElem?_cons_succ, Option.some.injEq] at ho
      subst ho
      obtain rfl := F3 (hd ⟨3, .data⟩ (by simp) rfl)
      refine wpOp_step rfl (fun K hK => ?_)
      go_simp
      refine hK _ _ ?_
      exact ⟨_, _, _, _, _, _, _, rfl, lk F0, lk F1, lk F2, lk F3, fun _ => rfl, fun h => F5 (ls (by decide) h), fun h => F6 (ls (by decide) h), F7, F8, F9⟩
    · simp only [List.getElem?_toArray, List.getElem?_cons_zero, List.getElem?_cons_succ, Option.some.injEq] at ho
      subst ho
      obtain rfl := F2 (hd ⟨2, .data⟩ (by simp) rfl)
      obtain rfl := F4 (hd ⟨4, .data⟩ (by simp) rfl)
      refine wpOp_step rfl (fun K hK => ?_)
      go_simp
      go_at_call 88
      refine (chain_any first (.func (.func 91) #[.agg #[.pointer (some ⟨sb, 0, none⟩), .int .i64 n]] #[]) rfl _).mono ?_
      rintro e' w' ⟨v', rfl, hch, hb⟩
      refine hK _ _ ?_
      exact ⟨_, _, _, _, _, _, _, rfl, lk F0, lk F1, lk F2, lk F3, lk F4, fun _ => hch.base (by have := F7.size; omega), fun h => ChV.call (F6 (ls (by decide) h)) hb, bt F7 hb, cell_call F8 hb, cell_call F9 hb⟩
    · simp only [List.getElem?_toArray, List.getElem?_cons_zero, List.getElem?_cons_succ, Option.some.injEq] at ho
      subst ho
      obtain ⟨b1, b2, rfl, p1, p2, p3, p4⟩ := F5 (hd ⟨5, .data⟩ (by simp) rfl)
      refine wpOp_step rfl (fun K hK => ?_)
      go_simp
      refine hK _ _ ?_
      exact ⟨_, _, _, _, _, _, _, rfl, lk F0, lk F1, lk F2, lk F3, lk F4, fun h => F5 (ls (by decide) h), fun _ => ⟨b1, b2, rfl, p1, p2, p3, p4⟩, F7, F8, F9⟩
  · intro listed A w hall hI
    unfold Wk11I at hI
    obtain ⟨s6, hI⟩ := hI
    obtain ⟨s37, hI⟩ := hI
    obtain ⟨s38, hI⟩ := hI
    obtain ⟨s39, hI⟩ := hI
    obtain ⟨s40, hI⟩ := hI
    obtain ⟨s41, hI⟩ := hI
    obtain ⟨s42, hI⟩ := hI
    obtain ⟨rfl, hI⟩ := hI
    obtain ⟨F0, hI⟩ := hI
    obtain ⟨F1, hI⟩ := hI
    obtain ⟨F2, hI⟩ := hI
    obtain ⟨F3, hI⟩ := hI
    obtain ⟨F4, hI⟩ := hI
    obtain ⟨F5, hI⟩ := hI
    obtain ⟨F6, hI⟩ := hI
    obtain ⟨F7, hI⟩ := hI
    obtain ⟨F8, hI⟩ := hI
    have F9 := hI; clear hI
    obtain rfl := F0 (hall 0 (by decide))
    obtain rfl := F1 (hall 1 (by decide))
    obtain rfl := F2 (hall 2 (by decide))
    obtain rfl := F3 (hall 3 (by decide))
    obtain rfl := F4 (hall 4 (by decide))
    have P5 := F5 (hall 5 (by decide))
    have P6 := F6 (hall 6 (by decide))
    have HB := F7
    have Q0 := F8
    have Q1 := F9
    exact hQ _ _ _ P6 HB
def Wk17I (w0 : World) (gb sb : Nat) (n first : Int) (c0 c2 c3 c4 c5 c7 c9 c10 c11 c12 c13 c14 c15 c16 c17 c18 c19 c20 c21 c22 c23 c24 c25 c26 c27 c28 c29 c30 c31 c32 c33 c34 c35 c36 c37 c38 c39 c40 c41 c42 c43 c44 c45 c46 c47 c48 c49 c50 c51 c52 c53 c54 c55 c62 c63 c64 c65 c66 c67 c68 c69 c70 c71 c72 c73 c74 c75 c76 c77 c78 c79 c80 c81 c82 c83 c84 c85 c86 c87 c88 c89 c90 c91 c92 : Value) (listed : Array Bool) (A : Act) (w : World) : Prop := ∃ (s6 s56 s57 s58 s59 s60 s61 : Value), A = { tmps := #[c0, .int .i64 n, c2, c3, c4, c5, s6, c7, .pointer (some ⟨gb, 0, none⟩), c9, c10, c11, c12, c13, c14, c15, c16, c17, c18, c19, c20, c21, c22, c23, c24, c25, c26, c27, c28, c29, c30, c31, c32, c33, c34, c35, c36, c37, c38, c39, c40, c41, c42, c43, c44, c45, c46, c47, c48, c49, c50, c51, c52, c53, c54, c55, s56, s57, s58, s59, s60, s61, c62, c63, c64, c65, c66, c67, c68, c69, c70, c71, c72, c73, c74, c75, c76, c77, c78, c79, c80, c81, c82, c83, c84, c85, c86, c87, c88, c89, c90, c91, c92], defers := [] } ∧
  (listed.getD 0 false = true → s56 = .agg #[.pointer (some ⟨sb, 0, none⟩), .int .i64 n]) ∧
  (listed.getD 1 false = true → s57 = .int .i64 n) ∧
  (listed.getD 2 false = true → s58 = .int .i64 first) ∧
  (listed.getD 3 false = true → s59 = .agg #[.pointer (some ⟨sb, 0, none⟩), .int .i64 n]) ∧
  (listed.getD 4 false = true → s60 = .func (.func 90) #[.agg #[.pointer (some ⟨sb, 0, none⟩), .int .i64 n]] #[]) ∧
  (listed.getD 5 false = true → ChV w0 w first (.func (.func 90) #[.agg #[.pointer (some ⟨sb, 0, none⟩), .int .i64 n]] #[]) s61) ∧
  (listed.getD 6 false = true → ChV w0 w first (.func (.func 90) #[.agg #[.pointer (some ⟨sb, 0, none⟩), .int .i64 n]] #[]) s6) ∧
  Below w0.heap.size w0 w ∧
  w.cell? ⟨gb, 0, none⟩ = some (.pointer (some ⟨sb, 0, none⟩)) ∧
  w.cell? ⟨gb, 1, none⟩ = some (.int .i64 n)
set_option maxRecDepth 100000 in
set_option maxHeartbeats 16000000 in
theorem Wk17_region (gb sb : Nat) (n first : Int) (x6 x56 x57 x58 x59 x60 x61 : Value) (c0 c2 c3 c4 c5 c7 c9 c10 c11 c12 c13 c14 c15 c16 c17 c18 c19 c20 c21 c22 c23 c24 c25 c26 c27 c28 c29 c30 c31 c32 c33 c34 c35 c36 c37 c38 c39 c40 c41 c42 c43 c44 c45 c46 c47 c48 c49 c50 c51 c52 c53 c54 c55 c62 c63 c64 c65 c66 c67 c68 c69 c70 c71 c72 c73 c74 c75 c76 c77 c78 c79 c80 c81 c82 c83 c84 c85 c86 c87 c88 c89 c90 c91 c92 : Value) (w0 W : World) (Q : Exit → Act → World → Prop) (hb0 : Below w0.heap.size w0 W) (C0 : W.cell? ⟨gb, 0, none⟩ = some (.pointer (some ⟨sb, 0, none⟩))) (C1 : W.cell? ⟨gb, 1, none⟩ = some (.int .i64 n)) (HI : Hid (∀ w1 : World, Below w0.heap.size w0 w1 → Calls Tryd.prog 90 #[.agg #[.pointer (some ⟨sb, 0, none⟩), .int .i64 n], .int .i64 n] w1 fun e' w' => e' = .returned (.int .i64 first) ∧ Below w1.heap.size w1 w'))
    (hQ : ∀ (w : World) (y61 y6 : Value) , (ChV w0 w first (.func (.func 90) #[.agg #[.pointer (some ⟨sb, 0, none⟩), .int .i64 n]] #[]) y6) → Below w0.heap.size w0 w → Q .normal { tmps := #[c0, .int .i64 n, c2, c3, c4, c5, y6, c7, .pointer (some ⟨gb, 0, none⟩), c9, c10, c11, c12, c13, c14, c15, c16, c17, c18, c19, c20, c21, c22, c23, c24, c25, c26, c27, c28, c29, c30, c31, c32, c33, c34, c35, c36, c37, c38, c39, c40, c41, c42, c43, c44, c45, c46, c47, c48, c49, c50, c51, c52, c53, c54, c55, .agg #[.pointer (some ⟨sb, 0, none⟩), .int .i64 n], .int .i64 n, .int .i64 first, .agg #[.pointer (some ⟨sb, 0, none⟩), .int .i64 n], .func (.func 90) #[.agg #[.pointer (some ⟨sb, 0, none⟩), .int .i64 n]] #[], y61, c62, c63, c64, c65, c66, c67, c68, c69, c70, c71, c72, c73, c74, c75, c76, c77, c78, c79, c80, c81, c82, c83, c84, c85, c86, c87, c88, c89, c90, c91, c92], defers := [] } w) :
    Code.wp Tryd.prog ((Tryd.f65.body.bind (regionOf 17)).getD .skip) Q { tmps := #[c0, .int .i64 n, c2, c3, c4, c5, x6, c7, .pointer (some ⟨gb, 0, none⟩), c9, c10, c11, c12, c13, c14, c15, c16, c17, c18, c19, c20, c21, c22, c23, c24, c25, c26, c27, c28, c29, c30, c31, c32, c33, c34, c35, c36, c37, c38, c39, c40, c41, c42, c43, c44, c45, c46, c47, c48, c49, c50, c51, c52, c53, c54, c55, x56, x57, x58, x59, x60, x61, c62, c63, c64, c65, c66, c67, c68, c69, c70, c71, c72, c73, c74, c75, c76, c77, c78, c79, c80, c81, c82, c83, c84, c85, c86, c87, c88, c89, c90, c91, c92], defers := [] } W := by
  conv => arg 2; whnf
  refine wp_region_inv (by kernel_rfl) (by kernel_rfl) (Wk17I w0 gb sb n first c0 c2 c3 c4 c5 c7 c9 c10 c11 c12 c13 c14 c15 c16 c17 c18 c19 c20 c21 c22 c23 c24 c25 c26 c27 c28 c29 c30 c31 c32 c33 c34 c35 c36 c37 c38 c39 c40 c41 c42 c43 c44 c45 c46 c47 c48 c49 c50 c51 c52 c53 c54 c55 c62 c63 c64 c65 c66 c67 c68 c69 c70 c71 c72 c73 c74 c75 c76 c77 c78 c79 c80 c81 c82 c83 c84 c85 c86 c87 c88 c89 c90 c91 c92) ?_ ?_ ?_
  · exact ⟨_, _, _, _, _, _, _, rfl, fun h => absurd h l0, fun h => absurd h l0, fun h => absurd h l0, fun h => absurd h l0, fun h => absurd h l0, fun h => absurd h l0, fun h => absurd h l0, bdr hb0, C0, C1⟩
  · intro i o listed A w hi ho hd hn hI
    unfold Wk17I at hI
    obtain ⟨s6, hI⟩ := hI
    obtain ⟨s56, hI⟩ := hI
    obtain ⟨s57, hI⟩ := hI
    obtain ⟨s58, hI⟩ := hI
    obtain ⟨s59, hI⟩ := hI
    obtain ⟨s60, hI⟩ := hI
    obtain ⟨s61, hI⟩ := hI
    obtain ⟨rfl, hI⟩ := hI
    obtain ⟨F0, hI⟩ := hI
    obtain ⟨F1, hI⟩ := hI
    obtain ⟨F2, hI⟩ := hI
    obtain ⟨F3, hI⟩ := hI
    obtain ⟨F4, hI⟩ := hI
    obtain ⟨F5, hI⟩ := hI
    obtain ⟨F6, hI⟩ := hI
    obtain ⟨F7, hI⟩ := hI
    obtain ⟨F8, hI⟩ := hI
    have F9 := hI; clear hI
    have hi' : i < 7 := hi
    clear hi
    rcases (by omega : i = 0 ∨ i = 1 ∨ i = 2 ∨ i = 3 ∨ i = 4 ∨ i = 5 ∨ i = 6) with rfl | rfl | rfl | rfl | rfl | rfl | rfl
    · simp only [List.getElem?_toArray, List.getElem?_cons_zero, Option.some.injEq] at ho
      subst ho
      have h0 := F8; have h1 := F9
      refine wpOp_step rfl (fun K hK => ?_)
      go_simp
      refine hK _ _ ?_
      exact ⟨_, _, _, _, _, _, _, rfl, fun _ => rfl, lk F1, lk F2, lk F3, lk F4, fun h => F5 (ls (by decide) h), fun h => F6 (ls (by decide) h), F7, F8, F9⟩
    · simp only [List.getElem?_toArray, List.getElem?_cons_zero, List.getElem?_cons_succ, Option.some.injEq] at ho
      subst ho
      refine wpOp_step rfl (fun K hK => ?_)
      go_simp
      refine hK _ _ ?_
      exact ⟨_, _, _, _, _, _, _, rfl, lk F0, fun _ => rfl, lk F2, lk F3, lk F4, fun h => F5 (ls (by decide) h), fun h => F6 (ls (by decide) h), F7, F8, F9⟩
    · simp only [List.getElem?_toArray, List.getElem?_cons_zero, List.getElem?_cons_succ, Option.some.injEq] at ho
      subst ho
      obtain rfl := F0 (hd ⟨0, .data⟩ (by simp) rfl)
      obtain rfl := F1 (hd ⟨1, .data⟩ (by simp) rfl)
      refine wpOp_step rfl (fun K hK => ?_)
      go_simp
      go_at_call 90
      refine (HI.out _ (by exact F7)).mono ?_
      rintro e' w' ⟨rfl, hb⟩
      refine hK _ _ ?_
      exact ⟨_, _, _, _, _, _, _, rfl, lk F0, lk F1, fun _ => rfl, lk F3, lk F4, fun h => ChV.call (F5 (ls (by decide) h)) hb, fun h => ChV.call (F6 (ls (by decide) h)) hb, bt F7 hb, cell_call F8 hb, cell_call F9 hb⟩
    · simp only [List.getElem?_toArray, List.getElem?_cons_zero, List.getElem?_cons_succ, Option.some.injEq] at ho
      subst ho
      have h0 := F8; have h1 := F9
      refine wpOp_step rfl (fun K hK => ?_)
      go_simp
      refine hK _ _ ?_
      exact ⟨_, _, _, _, _, _, _, rfl, lk F0, lk F1, lk F2, fun _ => rfl, lk F4, fun h => F5 (ls (by decide) h), fun h => F6 (ls (by decide) h), F7, F8, F9⟩
    · simp only [List.getElem?_toArray, List.getElem?_cons_zero, List.getElem?_cons_succ, Option.some.injEq] at ho
      subst ho
      obtain rfl := F3 (hd ⟨3, .data⟩ (by simp) rfl)
      refine wpOp_step rfl (fun K hK => ?_)
      go_simp
      refine hK _ _ ?_
      exact ⟨_, _, _, _, _, _, _, rfl, lk F0, lk F1, lk F2, lk F3, fun _ => rfl, fun h => F5 (ls (by decide) h), fun h => F6 (ls (by decide) h), F7, F8, F9⟩
    · simp only [List.getElem?_toArray, List.getElem?_cons_zero, List.getElem?_cons_succ, Option.some.injEq] at ho
      subst ho
      obtain rfl := F2 (hd ⟨2, .data⟩ (by simp) rfl)
      obtain rfl := F4 (hd ⟨4, .data⟩ (by simp) rfl)
      refine wpOp_step rfl (fun K hK => ?_)
      go_simp
      go_at_call 88
      refine (chain_any first (.func (.func 90) #[.agg #[.pointer (some ⟨sb, 0, none⟩), .int .i64 n]] #[]) rfl _).mono ?_
      rintro e' w' ⟨v', rfl, hch, hb⟩
      refine hK _ _ ?_
      exact ⟨_, _, _, _, _, _, _, rfl, lk F0, lk F1, lk F2, lk F3, lk F4, fun _ => hch.base (by have := F7.size; omega), fun h => ChV.call (F6 (ls (by decide) h)) hb, bt F7 hb, cell_call F8 hb, cell_call F9 hb⟩
    · simp only [List.getElem?_toArray, List.getElem?_cons_zero, List.getElem?_cons_succ, Option.some.injEq] at ho
      subst ho
      obtain ⟨b1, b2, rfl, p1, p2, p3, p4⟩ := F5 (hd ⟨5, .data⟩ (by simp) rfl)
      refine wpOp_step rfl (fun K hK => ?_)
      go_simp
      refine hK _ _ ?_
      exact ⟨_, _, _, _, _, _, _, rfl, lk F0, lk F1, lk F2, lk F3, lk F4, fun h => F5 (ls (by decide) h), fun _ => ⟨b1, b2, rfl, p1, p2, p3, p4⟩, F7, F8, F9⟩
  · intro listed A w hall hI
    unfold Wk17I at hI
    obtain ⟨s6, hI⟩ := hI
    obtain ⟨s56, hI⟩ := hI
    obtain ⟨s57, hI⟩ := hI
    obtain ⟨s58, hI⟩ := hI
    obtain ⟨s59, hI⟩ := hI
    obtain ⟨s60, hI⟩ := hI
    obtain ⟨s61, hI⟩ := hI
    obtain ⟨rfl, hI⟩ := hI
    obtain ⟨F0, hI⟩ := hI
    obtain ⟨F1, hI⟩ := hI
    obtain ⟨F2, hI⟩ := hI
    obtain ⟨F3, hI⟩ := hI
    obtain ⟨F4, hI⟩ := hI
    obtain ⟨F5, hI⟩ := hI
    obtain ⟨F6, hI⟩ := hI
    obtain ⟨F7, hI⟩ := hI
    obtain ⟨F8, hI⟩ := hI
    have F9 := hI; clear hI
    obtain rfl := F0 (hall 0 (by decide))
    obtain rfl := F1 (hall 1 (by decide))
    obtain rfl := F2 (hall 2 (by decide))
    obtain rfl := F3 (hall 3 (by decide))
    obtain rfl := F4 (hall 4 (by decide))
    have P5 := F5 (hall 5 (by decide))
    have P6 := F6 (hall 6 (by decide))
    have HB := F7
    have Q0 := F8
    have Q1 := F9
    exact hQ _ _ _ P6 HB
def Wk23I (w0 : World) (gb sb : Nat) (n first : Int) (c0 c2 c3 c4 c5 c7 c9 c10 c11 c12 c13 c14 c15 c16 c17 c18 c19 c20 c21 c22 c23 c24 c25 c26 c27 c28 c29 c30 c31 c32 c33 c34 c35 c36 c37 c38 c39 c40 c41 c42 c43 c44 c45 c46 c47 c48 c49 c50 c51 c52 c53 c54 c55 c56 c57 c58 c59 c60 c61 c62 c63 c64 c65 c66 c67 c68 c69 c70 c71 c72 c73 c74 c75 c76 c77 c78 c85 c86 c87 c88 c89 c90 c91 c92 : Value) (listed : Array Bool) (A : Act) (w : World) : Prop := ∃ (s6 s79 s80 s81 s82 s83 s84 : Value), A = { tmps := #[c0, .int .i64 n, c2, c3, c4, c5, s6, c7, .pointer (some ⟨gb, 0, none⟩), c9, c10, c11, c12, c13, c14, c15, c16, c17, c18, c19, c20, c21, c22, c23, c24, c25, c26, c27, c28, c29, c30, c31, c32, c33, c34, c35, c36, c37, c38, c39, c40, c41, c42, c43, c44, c45, c46, c47, c48, c49, c50, c51, c52, c53, c54, c55, c56, c57, c58, c59, c60, c61, c62, c63, c64, c65, c66, c67, c68, c69, c70, c71, c72, c73, c74, c75, c76, c77, c78, s79, s80, s81, s82, s83, s84, c85, c86, c87, c88, c89, c90, c91, c92], defers := [] } ∧
  (listed.getD 0 false = true → s79 = .agg #[.pointer (some ⟨sb, 0, none⟩), .int .i64 n]) ∧
  (listed.getD 1 false = true → s80 = .int .i64 n) ∧
  (listed.getD 2 false = true → s81 = .int .i64 first) ∧
  (listed.getD 3 false = true → s82 = .agg #[.pointer (some ⟨sb, 0, none⟩), .int .i64 n]) ∧
  (listed.getD 4 false = true → s83 = .func (.func 92) #[.agg #[.pointer (some ⟨sb, 0, none⟩), .int .i64 n]] #[]) ∧
  (listed.getD 5 false = true → ChV w0 w first (.func (.func 92) #[.agg #[.pointer (some ⟨sb, 0, none⟩), .int .i64 n]] #[]) s84) ∧
  (listed.getD 6 false = true → ChV w0 w first (.func (.func 92) #[.agg #[.pointer (some ⟨sb, 0, none⟩), .int .i64 n]] #[]) s6) ∧
  Below w0.heap.size w0 w ∧
  w.cell? ⟨gb, 0, none⟩ = some (.pointer (some ⟨sb, 0, none⟩)) ∧
  w.cell? ⟨gb, 1, none⟩ = some (.int .i64 n)
set_option maxRecDepth 100000 in
set_option maxHeartbeats 16000000 in
theorem Wk23_region (gb sb : Nat) (n first : Int) (x6 x79 x80 x81 x82 x83 x84 : Value) (c0 c2 c3 c4 c5 c7 c9 c10 c11 c12 c13 c14 c15 c16 c17 c18 c19 c20 c21 c22 c23 c24 c25 c26 c27 c28 c29 c30 c31 c32 c33 c34 c35 c36 c37 c38 c39 c40 c41 c42 c43 c44 c45 c46 c47 c48 c49 c50 c51 c52 c53 c54 c55 c56 c57 c58 c59 c60 c61 c62 c63 c64 c65 c66 c67 c68 c69 c70 c71 c72 c73 c74 c75 c76 c77 c78 c85 c86 c87 c88 c89 c90 c91 c92 : Value) (w0 W : World) (Q : Exit → Act → World → Prop) (hb0 : Below w0.heap.size w0 W) (C0 : W.cell? ⟨gb, 0, none⟩ = some (.pointer (some ⟨sb, 0, none⟩))) (C1 : W.cell? ⟨gb, 1, none⟩ = some (.int .i64 n)) (HI : Hid (∀ w1 : World, Below w0.heap.size w0 w1 → Calls Tryd.prog 92 #[.agg #[.pointer (some ⟨sb, 0, none⟩), .int .i64 n], .int .i64 n] w1 fun e' w' => e' = .returned (.int .i64 first) ∧ Below w1.heap.size w1 w'))
    (hQ : ∀ (w : World) (y84 y6 : Value) , (ChV w0 w first (.func (.func 92) #[.agg #[.pointer (some ⟨sb, 0, none⟩), .int .i64 n]] #[]) y6) → Below w0.heap.size w0 w → Q .normal { tmps := #[c0, .int .i64 n, c2, c3, c4, c5, y6, c7, .pointer (some ⟨gb, 0, none⟩), c9, c10, c11, c12, c13, c14, c15, c16, c17, c18, c19, c20, c21, c22, c23, c24, c25, c26, c27, c28, c29, c30, c31, c32, c33, c34, c35, c36, c37, c38, c39, c40, c41, c42, c43, c44, c45, c46, c47, c48, c49, c50, c51, c52, c53, c54, c55, c56, c57, c58, c59, c60, c61, c62, c63, c64, c65, c66, c67, c68, c69, c70, c71, c72, c73, c74, c75, c76, c77, c78, .agg #[.pointer (some ⟨sb, 0, none⟩), .int .i64 n], .int .i64 n, .int .i64 first, .agg #[.pointer (some ⟨sb, 0, none⟩), .int .i64 n], .func (.func 92) #[.agg #[.pointer (some ⟨sb, 0, none⟩), .int .i64 n]] #[], y84, c85, c86, c87, c88, c89, c90, c91, c92], defers := [] } w) :
    Code.wp Tryd.prog ((Tryd.f65.body.bind (regionOf 23)).getD .skip) Q { tmps := #[c0, .int .i64 n, c2, c3, c4, c5, x6, c7, .pointer (some ⟨gb, 0, none⟩), c9, c10, c11, c12, c13, c14, c15, c16, c17, c18, c19, c20, c21, c22, c23, c24, c25, c26, c27, c28, c29, c30, c31, c32, c33, c34, c35, c36, c37, c38, c39, c40, c41, c42, c43, c44, c45, c46, c47, c48, c49, c50, c51, c52, c53, c54, c55, c56, c57, c58, c59, c60, c61, c62, c63, c64, c65, c66, c67, c68, c69, c70, c71, c72, c73, c74, c75, c76, c77, c78, x79, x80, x81, x82, x83, x84, c85, c86, c87, c88, c89, c90, c91, c92], defers := [] } W := by
  conv => arg 2; whnf
  refine wp_region_inv (by kernel_rfl) (by kernel_rfl) (Wk23I w0 gb sb n first c0 c2 c3 c4 c5 c7 c9 c10 c11 c12 c13 c14 c15 c16 c17 c18 c19 c20 c21 c22 c23 c24 c25 c26 c27 c28 c29 c30 c31 c32 c33 c34 c35 c36 c37 c38 c39 c40 c41 c42 c43 c44 c45 c46 c47 c48 c49 c50 c51 c52 c53 c54 c55 c56 c57 c58 c59 c60 c61 c62 c63 c64 c65 c66 c67 c68 c69 c70 c71 c72 c73 c74 c75 c76 c77 c78 c85 c86 c87 c88 c89 c90 c91 c92) ?_ ?_ ?_
  · exact ⟨_, _, _, _, _, _, _, rfl, fun h => absurd h l0, fun h => absurd h l0, fun h => absurd h l0, fun h => absurd h l0, fun h => absurd h l0, fun h => absurd h l0, fun h => absurd h l0, bdr hb0, C0, C1⟩
  · intro i o listed A w hi ho hd hn hI
    unfold Wk23I at hI
    obtain ⟨s6, hI⟩ := hI
    obtain ⟨s79, hI⟩ := hI
    obtain ⟨s80, hI⟩ := hI
    obtain ⟨s81, hI⟩ := hI
    obtain ⟨s82, hI⟩ := hI
    obtain ⟨s83, hI⟩ := hI
    obtain ⟨s84, hI⟩ := hI
    obtain ⟨rfl, hI⟩ := hI
    obtain ⟨F0, hI⟩ := hI
    obtain ⟨F1, hI⟩ := hI
    obtain ⟨F2, hI⟩ := hI
    obtain ⟨F3, hI⟩ := hI
    obtain ⟨F4, hI⟩ := hI
    obtain ⟨F5, hI⟩ := hI
    obtain ⟨F6, hI⟩ := hI
    obtain ⟨F7, hI⟩ := hI
    obtain ⟨F8, hI⟩ := hI
    have F9 := hI; clear hI
    have hi' : i < 7 := hi
    clear hi
    rcases (by omega : i = 0 ∨ i = 1 ∨ i = 2 ∨ i = 3 ∨ i = 4 ∨ i = 5 ∨ i = 6) with rfl | rfl | rfl | rfl | rfl | rfl | rfl
    · simp only [List.getElem?_toArray, List.getElem?_cons_zero, Option.some.injEq] at ho
      subst ho
      have h0 := F8; have h1 := F9
      refine wpOp_step rfl (fun K hK => ?_)
      go_simp
      refine hK _ _ ?_
      exact ⟨_, _, _, _, _, _, _, rfl, fun _ => rfl, lk F1, lk F2, lk F3, lk F4, fun h => F5 (ls (by decide) h), fun h => F6 (ls (by decide) h), F7, F8, F9⟩
    · simp only [List.getElem?_toArray, List.getElem?_cons_zero, List.getElem?_cons_succ, Option.some.injEq] at ho
      subst ho
      refine wpOp_step rfl (fun K hK => ?_)
      go_simp
      refine hK _ _ ?_
      exact ⟨_, _, _, _, _, _, _, rfl, lk F0, fun _ => rfl, lk F2, lk F3, lk F4, fun h => F5 (ls (by decide) h), fun h => F6 (ls (by decide) h), F7, F8, F9⟩
    · simp only [List.getElem?_toArray, List.getElem?_cons_zero, List.getElem?_cons_succ, Option.some.injEq] at ho
      subst ho
      obtain rfl := F0 (hd ⟨0, .data⟩ (by simp) rfl)
      obtain rfl := F1 (hd ⟨1, .data⟩ (by simp) rfl)
      refine wpOp_step rfl (fun K hK => ?_)
      go_simp
      go_at_call 92
      refine (HI.out _ (by exact F7)).mono ?_
      rintro e' w' ⟨rfl, hb⟩
      refine hK _ _ ?_
      exact ⟨_, _, _, _, _, _, _, rfl, lk F0, lk F1, fun _ => rfl, lk F3, lk F4, fun h => ChV.call (F5 (ls (by decide) h)) hb, fun h => ChV.call (F6 (ls (by decide) h)) hb, bt F7 hb, cell_call F8 hb, cell_call F9 hb⟩
    · simp only [List.getElem?_toArray, List.getElem?_cons_zero, List.getElem?_cons_succ, Option.some.injEq] at ho
      subst ho
      have h0 := F8; have h1 := F9
      refine wpOp_step rfl (fun K hK => ?_)
      go_simp
      refine hK _ _ ?_
      exact ⟨_, _, _, _, _, _, _, rfl, lk F0, lk F1, lk F2, fun _ => rfl, lk F4, fun h => F5 (ls (by decide) h), fun h => F6 (ls (by decide) h), F7, F8, F9⟩
    · simp only [List.getElem?_toArray, List.getElem?_cons_zero, List.getElem?_cons_succ, Option.some.injEq] at ho
      subst ho
      obtain rfl := F3 (hd ⟨3, .data⟩ (by simp) rfl)
      refine wpOp_step rfl (fun K hK => ?_)
      go_simp
      refine hK _ _ ?_
      exact ⟨_, _, _, _, _, _, _, rfl, lk F0, lk F1, lk F2, lk F3, fun _ => rfl, fun h => F5 (ls (by decide) h), fun h => F6 (ls (by decide) h), F7, F8, F9⟩
    · simp only [List.getElem?_toArray, List.getElem?_cons_zero, List.getElem?_cons_succ, Option.some.injEq] at ho
      subst ho
      obtain rfl := F2 (hd ⟨2, .data⟩ (by simp) rfl)
      obtain rfl := F4 (hd ⟨4, .data⟩ (by simp) rfl)
      refine wpOp_step rfl (fun K hK => ?_)
      go_simp
      go_at_call 88
      refine (chain_any first (.func (.func 92) #[.agg #[.pointer (some ⟨sb, 0, none⟩), .int .i64 n]] #[]) rfl _).mono ?_
      rintro e' w' ⟨v', rfl, hch, hb⟩
      refine hK _ _ ?_
      exact ⟨_, _, _, _, _, _, _, rfl, lk F0, lk F1, lk F2, lk F3, lk F4, fun _ => hch.base (by have := F7.size; omega), fun h => ChV.call (F6 (ls (by decide) h)) hb, bt F7 hb, cell_call F8 hb, cell_call F9 hb⟩
    · simp only [List.getElem?_toArray, List.getElem?_cons_zero, List.getElem?_cons_succ, Option.some.injEq] at ho
      subst ho
      obtain ⟨b1, b2, rfl, p1, p2, p3, p4⟩ := F5 (hd ⟨5, .data⟩ (by simp) rfl)
      refine wpOp_step rfl (fun K hK => ?_)
      go_simp
      refine hK _ _ ?_
      exact ⟨_, _, _, _, _, _, _, rfl, lk F0, lk F1, lk F2, lk F3, lk F4, fun h => F5 (ls (by decide) h), fun _ => ⟨b1, b2, rfl, p1, p2, p3, p4⟩, F7, F8, F9⟩
  · intro listed A w hall hI
    unfold Wk23I at hI
    obtain ⟨s6, hI⟩ := hI
    obtain ⟨s79, hI⟩ := hI
    obtain ⟨s80, hI⟩ := hI
    obtain ⟨s81, hI⟩ := hI
    obtain ⟨s82, hI⟩ := hI
    obtain ⟨s83, hI⟩ := hI
    obtain ⟨s84, hI⟩ := hI
    obtain ⟨rfl, hI⟩ := hI
    obtain ⟨F0, hI⟩ := hI
    obtain ⟨F1, hI⟩ := hI
    obtain ⟨F2, hI⟩ := hI
    obtain ⟨F3, hI⟩ := hI
    obtain ⟨F4, hI⟩ := hI
    obtain ⟨F5, hI⟩ := hI
    obtain ⟨F6, hI⟩ := hI
    obtain ⟨F7, hI⟩ := hI
    obtain ⟨F8, hI⟩ := hI
    have F9 := hI; clear hI
    obtain rfl := F0 (hall 0 (by decide))
    obtain rfl := F1 (hall 1 (by decide))
    obtain rfl := F2 (hall 2 (by decide))
    obtain rfl := F3 (hall 3 (by decide))
    obtain rfl := F4 (hall 4 (by decide))
    have P5 := F5 (hall 5 (by decide))
    have P6 := F6 (hall 6 (by decide))
    have HB := F7
    have Q0 := F8
    have Q1 := F9
    exact hQ _ _ _ P6 HB
end Go.Proofs.YtcmlfkoeajpliaaDoor
namespace Go.Proofs.YtcmlfkoeajpliaaDoor
open Go.RowKit Go.Lib
set_option maxRecDepth 100000
set_option maxHeartbeats 8000000
/-- What goes from number to number, as a function of the program. -/
def StepP (sb lim : Nat) (A : Option Addr) (c : Nat) (L : List En) (fa : Nat) (fst : Array Value) (f : Nat → Nat) (xs : List Nat) : Prop :=
  (∀ args w, (callFunc fa args).run Tryd.prog w = .ok (.enter fa args) w) ∧ ∀ x ∈ xs, ∀ W, StoreAt W sb lim A c L → Calls Tryd.prog fa (fst.push (.int .i64 (x : Int))) W fun e w' => e = .returned (.int .i64 (f x : Int)) ∧ Below W.heap.size W w'
/-- A function that yields these numbers. -/
def IterV (w0 w : World) (sb lim : Nat) (A : Option Addr) (c : Nat) (L : List En) (xs : List Nat) (v : Value) : Prop :=
  ∃ (first : Nat) (f : Nat → Nat) (fa : Nat) (fst : Array Value), ChV w0 w first (.func (.func fa) fst #[]) v ∧ Ch f first xs ∧ StepP sb lim A c L fa fst f xs
theorem step_none (sb lim : Nat) (A : Option Addr) (c : Nat) (L : List En) (xs : List Nat) : StepP sb lim A c L 87 #[] (fun _ => 0) xs := ⟨enters_of Tryd.func87 (by kernel_rfl) rfl, fun x _ W _ => none_any (x : Int) W⟩
theorem step_par (sb lim : Nat) (A : Option Addr) (c : Nat) (L : List En) (hL : L.length ≤ 1048576) (xs : List Nat) : StepP sb lim A c L 31 #[.pointer (some ⟨sb, 0, none⟩)] (prN L) xs := ⟨enters_of Tryd.func31 (by kernel_rfl) rfl, fun x _ W hS => parC hS hL x⟩
theorem step_after (sb lim : Nat) (A : Option Addr) (c : Nat) (L : List En) (hL : L.length ≤ 1048576) (hO : Ord L.length (kdN L) (prN L) (enN L)) (n : Nat) (xs : List Nat) : StepP sb lim A c L 90 #[.agg #[.pointer (some ⟨sb, 0, none⟩), .int .i64 (n : Int)]] (afterF (kdN L) (prN L) (enN L)) xs :=
  ⟨enters_of Tryd.func90 (by kernel_rfl) rfl, fun x _ W hS => after_any hS hL hO n x⟩
theorem step_before (sb lim : Nat) (A : Option Addr) (c : Nat) (L : List En) (hL : L.length ≤ 1048576) (hO : Ord L.length (kdN L) (prN L) (enN L)) (n : Nat) (xs : List Nat) (hx : ∀ x ∈ xs, x ≤ L.length) : StepP sb lim A c L 92 #[.agg #[.pointer (some ⟨sb, 0, none⟩), .int .i64 (n : Int)]] (beforeF (kdN L) (prN L)) xs :=
  ⟨enters_of Tryd.func92 (by kernel_rfl) rfl, fun x h W hS => before_any hS hL hO n x (hx x h)⟩
theorem step_attr (sb lim : Nat) (A : Option Addr) (c : Nat) (L : List En) (hL : L.length ≤ 1048576) (n : Nat) (xs : List Nat) (hx : ∀ x ∈ xs, x ≤ L.length) : StepP sb lim A c L 91 #[.agg #[.pointer (some ⟨sb, 0, none⟩), .int .i64 (n : Int)]] (attrF (kdN L) (enN L) n) xs :=
  ⟨enters_of Tryd.func91 (by kernel_rfl) rfl, fun x h W hS => attr_any hS hL n x (hx x h)⟩
theorem step_inner (sb lim : Nat) (A : Option Addr) (c : Nat) (L : List En) (hL : L.length ≤ 1048576) (hO : Ord L.length (kdN L) (prN L) (enN L)) (n : Nat) (xs : List Nat) (hx : ∀ x ∈ xs, x ≤ enN L n) : StepP sb lim A c L 89 #[.agg #[.pointer (some ⟨sb, 0, none⟩), .int .i64 (n : Int)]] (innerF (kdN L) (enN L) n) xs :=
  ⟨enters_of Tryd.func89 (by kernel_rfl) rfl, fun x h W hS => inner_any hS hL hO n x (hx x h)⟩
theorem axL_le (N : Nat) (kd : Nat → Int) (pr en : Nat → Nat) (n : Nat) (a : Int) : ∀ x ∈ axL N kd pr en n a, 1 ≤ x ∧ x ≤ N ∧ axP kd pr en n a x = true := by
  intro x hx
  unfold axL at hx
  split at hx
  · exact nomatch hx
  · split at hx
    · have := bwd_mem.1 hx; exact ⟨this.1, by omega, this.2.2⟩
    · have := fwd_mem.1 hx; exact ⟨by omega, this.2.1, this.2.2⟩
theorem walk_1 {sb lim : Nat} {A : Option Addr} {c : Nat} {L : List En} {w : World} (hS : StoreAt w sb lim A c L) (hL : L.length ≤ 1048576) (hO : Ord L.length (kdN L) (prN L) (enN L)) (n : Nat) (h1 : 1 ≤ n) (h2 : n ≤ L.length) :
    Calls Tryd.prog 65 #[.pointer (some ⟨sb, 0, none⟩), .int .i64 (n : Int), .int .i64 1] w fun e w' => ∃ v, e = .returned v ∧ IterV w w' sb lim A c L (axL L.length (kdN L) (prN L) (enN L) n 1) v ∧ Below w.heap.size w w' := by
  have HK := Lib.hid (fun (w1 : World) (hb1 : Below w.heap.size w w1) => kindC (hS.below hb1) hL n)
  have hk0 := hO.k0 n h1 h2
  have hen := hO.enr n h1 h2
  have hle := axL_le L.length (kdN L) (prN L) (enN L) n 1
  have HI := Lib.hid (fun (w1 : World) (hb1 : Below w.heap.size w w1) => inner_any (hS.below hb1) hL hO n n hen.1)
  have HS := Lib.hid (step_after sb lim A c L hL hO n _ : StepP sb lim A c L _ _ _ (axL L.length (kdN L) (prN L) (enN L) n 1))
  have HC := Lib.hid (ch_child hO h1 h2)
  obtain ⟨k, hk⟩ : ∃ k, kdN L n = k := ⟨_, rfl⟩
  rw [hk] at HK hk0
  have gk : (k == 0) = false := by simpa using hk0
  have gk' : decide (k = 0) = false := by simpa using hk0
  obtain ⟨fi, hfi⟩ : ∃ fi, innerF (kdN L) (enN L) n n = fi := ⟨_, rfl⟩
  rw [hfi] at HI HC
  clear hS hO hk hk0 hen hle hfi
  go_enter Tryd.func65, Tryd.ntmps65
  go_wp2_with fail
  refine (HK.out _ (Below.refl _ _)).mono ?_
  rintro e' w3 ⟨rfl, hb3⟩
  go_upto_region 7 with fail
  refine Wk7_region w3.heap.size sb (n : Int) (fi : Int) _ _ _ _ _ _ _ _ _ _ _ _ _ _ _ _ _ _ _ _ _ _ _ _ _ _ _ _ _ _ _ _ _ _ _ _ _ _ _ _ _ _ _ _ _ _ _ _ _ _ _ _ _ _ _ _ _ _ _ _ _ _ _ _ _ _ _ _ _ _ _ _ _ _ _ _ _ _ _ _ _ _ _ _ _ _ _ _ _ _ _ w _ _ (ba hb3) ?_ ?_ HI ?_
  · simp
  · simp
  rintro w5 y26 y6 hch B5
  go_wp2
  go_ret
  exact ⟨_, rfl, ⟨fi, _, _, _, hch, HC.out, HS.out⟩, B5⟩
theorem walk_2 {sb lim : Nat} {A : Option Addr} {c : Nat} {L : List En} {w : World} (hS : StoreAt w sb lim A c L) (hL : L.length ≤ 1048576) (hO : Ord L.length (kdN L) (prN L) (enN L)) (n : Nat) (h1 : 1 ≤ n) (h2 : n ≤ L.length) :
    Calls Tryd.prog 65 #[.pointer (some ⟨sb, 0, none⟩), .int .i64 (n : Int), .int .i64 2] w fun e w' => ∃ v, e = .returned v ∧ IterV w w' sb lim A c L (axL L.length (kdN L) (prN L) (enN L) n 2) v ∧ Below w.heap.size w w' := by
  have HK := Lib.hid (fun (w1 : World) (hb1 : Below w.heap.size w w1) => kindC (hS.below hb1) hL n)
  have hk0 := hO.k0 n h1 h2
  have hen := hO.enr n h1 h2
  have hle := axL_le L.length (kdN L) (prN L) (enN L) n 2
  have HI := Lib.hid (fun (w1 : World) (hb1 : Below w.heap.size w w1) => inner_any (hS.below hb1) hL hO n n hen.1)
  have HS := Lib.hid (step_inner sb lim A c L hL hO n _ (fun x hx => by have := (hle x hx).2.2; simp [axP] at this; exact this.2.1) : StepP sb lim A c L _ _ _ (axL L.length (kdN L) (prN L) (enN L) n 2))
  have HC := Lib.hid (ch_desc hO h1 h2)
  obtain ⟨k, hk⟩ : ∃ k, kdN L n = k := ⟨_, rfl⟩
  rw [hk] at HK hk0
  have gk : (k == 0) = false := by simpa using hk0
  have gk' : decide (k = 0) = false := by simpa using hk0
  obtain ⟨fi, hfi⟩ : ∃ fi, innerF (kdN L) (enN L) n n = fi := ⟨_, rfl⟩
  rw [hfi] at HI HC
  clear hS hO hk hk0 hen hle hfi
  go_enter Tryd.func65, Tryd.ntmps65
  go_wp2_with fail
  refine (HK.out _ (Below.refl _ _)).mono ?_
  rintro e' w3 ⟨rfl, hb3⟩
  go_upto_region 9 with fail
  refine Wk9_region w3.heap.size sb (n : Int) (fi : Int) _ _ _ _ _ _ _ _ _ _ _ _ _ _ _ _ _ _ _ _ _ _ _ _ _ _ _ _ _ _ _ _ _ _ _ _ _ _ _ _ _ _ _ _ _ _ _ _ _ _ _ _ _ _ _ _ _ _ _ _ _ _ _ _ _ _ _ _ _ _ _ _ _ _ _ _ _ _ _ _ _ _ _ _ _ _ _ _ _ _ _ w _ _ (ba hb3) ?_ ?_ HI ?_
  · simp
  · simp
  rintro w5 y26 y6 hch B5
  go_wp2
  go_ret
  exact ⟨_, rfl, ⟨fi, _, _, _, hch, HC.out, HS.out⟩, B5⟩
theorem walk_3 {sb lim : Nat} {A : Option Addr} {c : Nat} {L : List En} {w : World} (hS : StoreAt w sb lim A c L) (hL : L.length ≤ 1048576) (hO : Ord L.length (kdN L) (prN L) (enN L)) (n : Nat) (h1 : 1 ≤ n) (h2 : n ≤ L.length) :
    Calls Tryd.prog 65 #[.pointer (some ⟨sb, 0, none⟩), .int .i64 (n : Int), .int .i64 3] w fun e w' => ∃ v, e = .returned v ∧ IterV w w' sb lim A c L (axL L.length (kdN L) (prN L) (enN L) n 3) v ∧ Below w.heap.size w w' := by
  have HK := Lib.hid (fun (w1 : World) (hb1 : Below w.heap.size w w1) => kindC (hS.below hb1) hL n)
  have hk0 := hO.k0 n h1 h2
  have hen := hO.enr n h1 h2
  have hle := axL_le L.length (kdN L) (prN L) (enN L) n 3
  have HI := Lib.hid (fun (w1 : World) (hb1 : Below w.heap.size w w1) => attr_any (hS.below hb1) hL n n h2)
  have HS := Lib.hid (step_attr sb lim A c L hL n _ (fun x hx => (hle x hx).2.1) : StepP sb lim A c L _ _ _ (axL L.length (kdN L) (prN L) (enN L) n 3))
  have HC := Lib.hid (ch_attr hO h1 h2)
  obtain ⟨k, hk⟩ : ∃ k, kdN L n = k := ⟨_, rfl⟩
  rw [hk] at HK hk0
  have gk : (k == 0) = false := by simpa using hk0
  have gk' : decide (k = 0) = false := by simpa using hk0
  obtain ⟨fi, hfi⟩ : ∃ fi, attrF (kdN L) (enN L) n n = fi := ⟨_, rfl⟩
  rw [hfi] at HI HC
  clear hS hO hk hk0 hen hle hfi
  go_enter Tryd.func65, Tryd.ntmps65
  go_wp2_with fail
  refine (HK.out _ (Below.refl _ _)).mono ?_
  rintro e' w3 ⟨rfl, hb3⟩
  go_upto_region 11 with fail
  refine Wk11_region w3.heap.size sb (n : Int) (fi : Int) _ _ _ _ _ _ _ _ _ _ _ _ _ _ _ _ _ _ _ _ _ _ _ _ _ _ _ _ _ _ _ _ _ _ _ _ _ _ _ _ _ _ _ _ _ _ _ _ _ _ _ _ _ _ _ _ _ _ _ _ _ _ _ _ _ _ _ _ _ _ _ _ _ _ _ _ _ _ _ _ _ _ _ _ _ _ _ _ _ _ _ w _ _ (ba hb3) ?_ ?_ HI ?_
  · simp
  · simp
  rintro w5 y26 y6 hch B5
  go_wp2
  go_ret
  exact ⟨_, rfl, ⟨fi, _, _, _, hch, HC.out, HS.out⟩, B5⟩
theorem walk_4 {sb lim : Nat} {A : Option Addr} {c : Nat} {L : List En} {w : World} (hS : StoreAt w sb lim A c L) (hL : L.length ≤ 1048576) (hO : Ord L.length (kdN L) (prN L) (enN L)) (n : Nat) (h1 : 1 ≤ n) (h2 : n ≤ L.length) :
    Calls Tryd.prog 65 #[.pointer (some ⟨sb, 0, none⟩), .int .i64 (n : Int), .int .i64 4] w fun e w' => ∃ v, e = .returned v ∧ IterV w w' sb lim A c L (axL L.length (kdN L) (prN L) (enN L) n 4) v ∧ Below w.heap.size w w' := by
  have HK := Lib.hid (fun (w1 : World) (hb1 : Below w.heap.size w w1) => kindC (hS.below hb1) hL n)
  have hk0 := hO.k0 n h1 h2
  have hen := hO.enr n h1 h2
  have hle := axL_le L.length (kdN L) (prN L) (enN L) n 4
  have HS := Lib.hid (step_none sb lim A c L _ : StepP sb lim A c L _ _ _ (axL L.length (kdN L) (prN L) (enN L) n 4))
  have HC := Lib.hid (ch_self (kd := kdN L) (pr := prN L) (en := enN L) h1 h2)
  obtain ⟨k, hk⟩ : ∃ k, kdN L n = k := ⟨_, rfl⟩
  rw [hk] at HK hk0
  have gk : (k == 0) = false := by simpa using hk0
  have gk' : decide (k = 0) = false := by simpa using hk0
  clear hS hO hk hk0 hen hle
  go_enter Tryd.func65, Tryd.ntmps65
  go_wp2_with fail
  refine (HK.out _ (Below.refl _ _)).mono ?_
  rintro e' w3 ⟨rfl, hb3⟩
  go_wp2_with fail
  refine (chain_any ((n : Nat) : Int) _ rfl _).mono ?_
  rintro e' w5 ⟨v, rfl, hch, hb5⟩
  have B5 : Below w.heap.size w w5 := bt (ba hb3) hb5
  go_wp2
  go_ret
  exact ⟨_, rfl, ⟨n, _, _, _, hch.base ((ba hb3)).size, HC.out, HS.out⟩, B5⟩
theorem walk_5 {sb lim : Nat} {A : Option Addr} {c : Nat} {L : List En} {w : World} (hS : StoreAt w sb lim A c L) (hL : L.length ≤ 1048576) (hO : Ord L.length (kdN L) (prN L) (enN L)) (n : Nat) (h1 : 1 ≤ n) (h2 : n ≤ L.length) :
    Calls Tryd.prog 65 #[.pointer (some ⟨sb, 0, none⟩), .int .i64 (n : Int), .int .i64 5] w fun e w' => ∃ v, e = .returned v ∧ IterV w w' sb lim A c L (axL L.length (kdN L) (prN L) (enN L) n 5) v ∧ Below w.heap.size w w' := by
  have HK := Lib.hid (fun (w1 : World) (hb1 : Below w.heap.size w w1) => kindC (hS.below hb1) hL n)
  have hk0 := hO.k0 n h1 h2
  have hen := hO.enr n h1 h2
  have hle := axL_le L.length (kdN L) (prN L) (enN L) n 5
  have HS := Lib.hid (step_inner sb lim A c L hL hO n _ (fun x hx => by have := (hle x hx).2.2; simp [axP] at this; omega) : StepP sb lim A c L _ _ _ (axL L.length (kdN L) (prN L) (enN L) n 5))
  have HC := Lib.hid (ch_descSelf hO h1 h2)
  obtain ⟨k, hk⟩ : ∃ k, kdN L n = k := ⟨_, rfl⟩
  rw [hk] at HK hk0
  have gk : (k == 0) = false := by simpa using hk0
  have gk' : decide (k = 0) = false := by simpa using hk0
  clear hS hO hk hk0 hen hle
  go_enter Tryd.func65, Tryd.ntmps65
  go_wp2_with fail
  refine (HK.out _ (Below.refl _ _)).mono ?_
  rintro e' w3 ⟨rfl, hb3⟩
  go_wp2_with fail
  refine (chain_any ((n : Nat) : Int) _ rfl _).mono ?_
  rintro e' w5 ⟨v, rfl, hch, hb5⟩
  have B5 : Below w.heap.size w w5 := bt (ba hb3) hb5
  go_wp2
  go_ret
  exact ⟨_, rfl, ⟨n, _, _, _, hch.base ((ba hb3)).size, HC.out, HS.out⟩, B5⟩
theorem walk_6 {sb lim : Nat} {A : Option Addr} {c : Nat} {L : List En} {w : World} (hS : StoreAt w sb lim A c L) (hL : L.length ≤ 1048576) (hO : Ord L.length (kdN L) (prN L) (enN L)) (n : Nat) (h1 : 1 ≤ n) (h2 : n ≤ L.length) :
    Calls Tryd.prog 65 #[.pointer (some ⟨sb, 0, none⟩), .int .i64 (n : Int), .int .i64 6] w fun e w' => ∃ v, e = .returned v ∧ IterV w w' sb lim A c L (axL L.length (kdN L) (prN L) (enN L) n 6) v ∧ Below w.heap.size w w' := by
  have HK := Lib.hid (fun (w1 : World) (hb1 : Below w.heap.size w w1) => kindC (hS.below hb1) hL n)
  have hk0 := hO.k0 n h1 h2
  have hen := hO.enr n h1 h2
  have hle := axL_le L.length (kdN L) (prN L) (enN L) n 6
  have HI := Lib.hid (fun (w1 : World) (hb1 : Below w.heap.size w w1) => after_any (hS.below hb1) hL hO n n)
  have HS := Lib.hid (step_after sb lim A c L hL hO n _ : StepP sb lim A c L _ _ _ (axL L.length (kdN L) (prN L) (enN L) n 6))
  have HC := Lib.hid (ch_foll hO h1 h2)
  obtain ⟨k, hk⟩ : ∃ k, kdN L n = k := ⟨_, rfl⟩
  rw [hk] at HK hk0
  have gk : (k == 0) = false := by simpa using hk0
  have gk' : decide (k = 0) = false := by simpa using hk0
  obtain ⟨fi, hfi⟩ : ∃ fi, afterF (kdN L) (prN L) (enN L) n = fi := ⟨_, rfl⟩
  rw [hfi] at HI HC
  clear hS hO hk hk0 hen hle hfi
  go_enter Tryd.func65, Tryd.ntmps65
  go_wp2_with fail
  refine (HK.out _ (Below.refl _ _)).mono ?_
  rintro e' w3 ⟨rfl, hb3⟩
  go_upto_region 17 with fail
  refine Wk17_region w3.heap.size sb (n : Int) (fi : Int) _ _ _ _ _ _ _ _ _ _ _ _ _ _ _ _ _ _ _ _ _ _ _ _ _ _ _ _ _ _ _ _ _ _ _ _ _ _ _ _ _ _ _ _ _ _ _ _ _ _ _ _ _ _ _ _ _ _ _ _ _ _ _ _ _ _ _ _ _ _ _ _ _ _ _ _ _ _ _ _ _ _ _ _ _ _ _ _ _ _ _ w _ _ (ba hb3) ?_ ?_ HI ?_
  · simp
  · simp
  rintro w5 y26 y6 hch B5
  go_wp2
  go_ret
  exact ⟨_, rfl, ⟨fi, _, _, _, hch, HC.out, HS.out⟩, B5⟩
theorem walk_7 {sb lim : Nat} {A : Option Addr} {c : Nat} {L : List En} {w : World} (hS : StoreAt w sb lim A c L) (hL : L.length ≤ 1048576) (hO : Ord L.length (kdN L) (prN L) (enN L)) (n : Nat) (h1 : 1 ≤ n) (h2 : n ≤ L.length) :
    Calls Tryd.prog 65 #[.pointer (some ⟨sb, 0, none⟩), .int .i64 (n : Int), .int .i64 7] w fun e w' => ∃ v, e = .returned v ∧ IterV w w' sb lim A c L (axL L.length (kdN L) (prN L) (enN L) n 7) v ∧ Below w.heap.size w w' := by
  have HK := Lib.hid (fun (w1 : World) (hb1 : Below w.heap.size w w1) => kindC (hS.below hb1) hL n)
  have hk0 := hO.k0 n h1 h2
  have hen := hO.enr n h1 h2
  have hle := axL_le L.length (kdN L) (prN L) (enN L) n 7
  have HI := Lib.hid (fun (w1 : World) (hb1 : Below w.heap.size w w1) => parC (hS.below hb1) hL n)
  have HS := Lib.hid (step_none sb lim A c L _ : StepP sb lim A c L _ _ _ (axL L.length (kdN L) (prN L) (enN L) n 7))
  have HC := Lib.hid (ch_par hO h1 h2)
  obtain ⟨k, hk⟩ : ∃ k, kdN L n = k := ⟨_, rfl⟩
  rw [hk] at HK hk0
  have gk : (k == 0) = false := by simpa using hk0
  have gk' : decide (k = 0) = false := by simpa using hk0
  obtain ⟨fi, hfi⟩ : ∃ fi, prN L n = fi := ⟨_, rfl⟩
  rw [hfi] at HI HC
  clear hS hO hk hk0 hen hle hfi
  go_enter Tryd.func65, Tryd.ntmps65
  go_wp2_with fail
  refine (HK.out _ (Below.refl _ _)).mono ?_
  rintro e' w3 ⟨rfl, hb3⟩
  go_wp2_with fail
  refine (HI.out _ (ba hb3)).mono ?_
  rintro e' w4 ⟨rfl, hb4⟩
  have B4 : Below w.heap.size w w4 := (ba hb3).trans (hb4.mono (by have := hb3.size; simp; omega))
  go_wp2_with fail
  refine (chain_any ((fi : Nat) : Int) _ rfl _).mono ?_
  rintro e' w5 ⟨v, rfl, hch, hb5⟩
  have B5 : Below w.heap.size w w5 := bt B4 hb5
  go_wp2
  go_ret
  exact ⟨_, rfl, ⟨fi, _, _, _, hch.base (B4).size, HC.out, HS.out⟩, B5⟩
theorem walk_8 {sb lim : Nat} {A : Option Addr} {c : Nat} {L : List En} {w : World} (hS : StoreAt w sb lim A c L) (hL : L.length ≤ 1048576) (hO : Ord L.length (kdN L) (prN L) (enN L)) (n : Nat) (h1 : 1 ≤ n) (h2 : n ≤ L.length) :
    Calls Tryd.prog 65 #[.pointer (some ⟨sb, 0, none⟩), .int .i64 (n : Int), .int .i64 8] w fun e w' => ∃ v, e = .returned v ∧ IterV w w' sb lim A c L (axL L.length (kdN L) (prN L) (enN L) n 8) v ∧ Below w.heap.size w w' := by
  have HK := Lib.hid (fun (w1 : World) (hb1 : Below w.heap.size w w1) => kindC (hS.below hb1) hL n)
  have hk0 := hO.k0 n h1 h2
  have hen := hO.enr n h1 h2
  have hle := axL_le L.length (kdN L) (prN L) (enN L) n 8
  have HI := Lib.hid (fun (w1 : World) (hb1 : Below w.heap.size w w1) => parC (hS.below hb1) hL n)
  have HS := Lib.hid (step_par sb lim A c L hL _ : StepP sb lim A c L _ _ _ (axL L.length (kdN L) (prN L) (enN L) n 8))
  have HC := Lib.hid (ch_anc hO h1 h2)
  obtain ⟨k, hk⟩ : ∃ k, kdN L n = k := ⟨_, rfl⟩
  rw [hk] at HK hk0
  have gk : (k == 0) = false := by simpa using hk0
  have gk' : decide (k = 0) = false := by simpa using hk0
  obtain ⟨fi, hfi⟩ : ∃ fi, prN L n = fi := ⟨_, rfl⟩
  rw [hfi] at HI HC
  clear hS hO hk hk0 hen hle hfi
  go_enter Tryd.func65, Tryd.ntmps65
  go_wp2_with fail
  refine (HK.out _ (Below.refl _ _)).mono ?_
  rintro e' w3 ⟨rfl, hb3⟩
  go_wp2_with fail
  refine (HI.out _ (ba hb3)).mono ?_
  rintro e' w4 ⟨rfl, hb4⟩
  have B4 : Below w.heap.size w w4 := (ba hb3).trans (hb4.mono (by have := hb3.size; simp; omega))
  go_wp2_with fail
  refine (chain_any ((fi : Nat) : Int) _ rfl _).mono ?_
  rintro e' w5 ⟨v, rfl, hch, hb5⟩
  have B5 : Below w.heap.size w w5 := bt B4 hb5
  go_wp2
  go_ret
  exact ⟨_, rfl, ⟨fi, _, _, _, hch.base (B4).size, HC.out, HS.out⟩, B5⟩
theorem walk_9 {sb lim : Nat} {A : Option Addr} {c : Nat} {L : List En} {w : World} (hS : StoreAt w sb lim A c L) (hL : L.length ≤ 1048576) (hO : Ord L.length (kdN L) (prN L) (enN L)) (n : Nat) (h1 : 1 ≤ n) (h2 : n ≤ L.length) :
    Calls Tryd.prog 65 #[.pointer (some ⟨sb, 0, none⟩), .int .i64 (n : Int), .int .i64 9] w fun e w' => ∃ v, e = .returned v ∧ IterV w w' sb lim A c L (axL L.length (kdN L) (prN L) (enN L) n 9) v ∧ Below w.heap.size w w' := by
  have HK := Lib.hid (fun (w1 : World) (hb1 : Below w.heap.size w w1) => kindC (hS.below hb1) hL n)
  have hk0 := hO.k0 n h1 h2
  have hen := hO.enr n h1 h2
  have hle := axL_le L.length (kdN L) (prN L) (enN L) n 9
  have HI := Lib.hid (fun (w1 : World) (hb1 : Below w.heap.size w w1) => before_any (hS.below hb1) hL hO n n h2)
  have HS := Lib.hid (step_before sb lim A c L hL hO n _ (fun x hx => (hle x hx).2.1) : StepP sb lim A c L _ _ _ (axL L.length (kdN L) (prN L) (enN L) n 9))
  have HC := Lib.hid (ch_prec hO h1 h2)
  obtain ⟨k, hk⟩ : ∃ k, kdN L n = k := ⟨_, rfl⟩
  rw [hk] at HK hk0
  have gk : (k == 0) = false := by simpa using hk0
  have gk' : decide (k = 0) = false := by simpa using hk0
  obtain ⟨fi, hfi⟩ : ∃ fi, beforeF (kdN L) (prN L) n = fi := ⟨_, rfl⟩
  rw [hfi] at HI HC
  clear hS hO hk hk0 hen hle hfi
  go_enter Tryd.func65, Tryd.ntmps65
  go_wp2_with fail
  refine (HK.out _ (Below.refl _ _)).mono ?_
  rintro e' w3 ⟨rfl, hb3⟩
  go_upto_region 23 with fail
  refine Wk23_region w3.heap.size sb (n : Int) (fi : Int) _ _ _ _ _ _ _ _ _ _ _ _ _ _ _ _ _ _ _ _ _ _ _ _ _ _ _ _ _ _ _ _ _ _ _ _ _ _ _ _ _ _ _ _ _ _ _ _ _ _ _ _ _ _ _ _ _ _ _ _ _ _ _ _ _ _ _ _ _ _ _ _ _ _ _ _ _ _ _ _ _ _ _ _ _ _ _ _ _ _ _ w _ _ (ba hb3) ?_ ?_ HI ?_
  · simp
  · simp
  rintro w5 y26 y6 hch B5
  go_wp2
  go_ret
  exact ⟨_, rfl, ⟨fi, _, _, _, hch, HC.out, HS.out⟩, B5⟩
theorem walk_10 {sb lim : Nat} {A : Option Addr} {c : Nat} {L : List En} {w : World} (hS : StoreAt w sb lim A c L) (hL : L.length ≤ 1048576) (hO : Ord L.length (kdN L) (prN L) (enN L)) (n : Nat) (h1 : 1 ≤ n) (h2 : n ≤ L.length) :
    Calls Tryd.prog 65 #[.pointer (some ⟨sb, 0, none⟩), .int .i64 (n : Int), .int .i64 10] w fun e w' => ∃ v, e = .returned v ∧ IterV w w' sb lim A c L (axL L.length (kdN L) (prN L) (enN L) n 10) v ∧ Below w.heap.size w w' := by
  have HK := Lib.hid (fun (w1 : World) (hb1 : Below w.heap.size w w1) => kindC (hS.below hb1) hL n)
  have hk0 := hO.k0 n h1 h2
  have hen := hO.enr n h1 h2
  have hle := axL_le L.length (kdN L) (prN L) (enN L) n 10
  have HS := Lib.hid (step_par sb lim A c L hL _ : StepP sb lim A c L _ _ _ (axL L.length (kdN L) (prN L) (enN L) n 10))
  have HC := Lib.hid (ch_ancSelf hO h1 h2)
  obtain ⟨k, hk⟩ : ∃ k, kdN L n = k := ⟨_, rfl⟩
  rw [hk] at HK hk0
  have gk : (k == 0) = false := by simpa using hk0
  have gk' : decide (k = 0) = false := by simpa using hk0
  clear hS hO hk hk0 hen hle
  go_enter Tryd.func65, Tryd.ntmps65
  go_wp2_with fail
  refine (HK.out _ (Below.refl _ _)).mono ?_
  rintro e' w3 ⟨rfl, hb3⟩
  go_wp2_with fail
  refine (chain_any ((n : Nat) : Int) _ rfl _).mono ?_
  rintro e' w5 ⟨v, rfl, hch, hb5⟩
  have B5 : Below w.heap.size w w5 := bt (ba hb3) hb5
  go_wp2
  go_ret
  exact ⟨_, rfl, ⟨n, _, _, _, hch.base ((ba hb3)).size, HC.out, HS.out⟩, B5⟩
theorem walk_out {sb lim : Nat} {A : Option Addr} {c : Nat} {L : List En} {w : World} (hS : StoreAt w sb lim A c L) (hL : L.length ≤ 1048576) (_hO : Ord L.length (kdN L) (prN L) (enN L)) (n : Nat) (a : Int) (h : n = 0 ∨ L.length < n) :
    Calls Tryd.prog 65 #[.pointer (some ⟨sb, 0, none⟩), .int .i64 (n : Int), .int .i64 a] w fun e w' => ∃ v, e = .returned v ∧ IterV w w' sb lim A c L (axL L.length (kdN L) (prN L) (enN L) n a) v ∧ Below w.heap.size w w' := by
  have HK := Lib.hid (kindC hS hL n)
  rw [(told_out h).1] at HK
  have e0 : axL L.length (kdN L) (prN L) (enN L) n a = [] := by unfold axL; rw [if_pos h]
  rw [e0]
  have HS := Lib.hid (step_none sb lim A c L [])
  clear hS e0
  go_enter Tryd.func65, Tryd.ntmps65
  go_wp2_with fail
  refine HK.out.mono ?_
  rintro e' w3 ⟨rfl, hb3⟩
  go_wp2_with fail
  refine (chain_any ((0 : Nat) : Int) _ rfl _).mono ?_
  rintro e' w5 ⟨v, rfl, hch, hb5⟩
  have B5 : Below w.heap.size w w5 := bt hb3 hb5
  go_wp2
  go_ret
  exact ⟨_, rfl, ⟨0, _, _, _, hch.base hb3.size, rfl, HS.out⟩, B5⟩
theorem walk_none {sb lim : Nat} {A : Option Addr} {c : Nat} {L : List En} {w : World} (hS : StoreAt w sb lim A c L) (hL : L.length ≤ 1048576) (hO : Ord L.length (kdN L) (prN L) (enN L)) (n : Nat) (a : Int) (h1 : 1 ≤ n) (h2 : n ≤ L.length) (ha : ¬ (1 ≤ a ∧ a ≤ 10)) :
    Calls Tryd.prog 65 #[.pointer (some ⟨sb, 0, none⟩), .int .i64 (n : Int), .int .i64 a] w fun e w' => ∃ v, e = .returned v ∧ IterV w w' sb lim A c L (axL L.length (kdN L) (prN L) (enN L) n a) v ∧ Below w.heap.size w w' := by
  have HK := Lib.hid (fun (w1 : World) (hb1 : Below w.heap.size w w1) => kindC (hS.below hb1) hL n)
  have hk0 := hO.k0 n h1 h2
  have HC := Lib.hid (ch_axis hO h1 h2 a)
  have eF : axF (kdN L) (prN L) (enN L) n a = 0 := by unfold axF; repeat rw [if_neg (by omega)]
  have eS : axS (kdN L) (prN L) (enN L) n a = fun _ => 0 := by unfold axS; repeat rw [if_neg (by omega)]
  rw [eF, eS] at HC
  have HS := Lib.hid (step_none sb lim A c L (axL L.length (kdN L) (prN L) (enN L) n a))
  obtain ⟨k, hk⟩ : ∃ k, kdN L n = k := ⟨_, rfl⟩
  rw [hk] at HK hk0
  have gk : (k == 0) = false := by simpa using hk0
  have gk' : decide (k = 0) = false := by simpa using hk0
  have ga1 : (a == 1) = false := by simpa using (by omega : ¬ a = 1)
  have gb1 : decide (a = 1) = false := by simpa using (by omega : ¬ a = 1)
  have ga2 : (a == 2) = false := by simpa using (by omega : ¬ a = 2)
  have gb2 : decide (a = 2) = false := by simpa using (by omega : ¬ a = 2)
  have ga3 : (a == 3) = false := by simpa using (by omega : ¬ a = 3)
  have gb3 : decide (a = 3) = false := by simpa using (by omega : ¬ a = 3)
  have ga4 : (a == 4) = false := by simpa using (by omega : ¬ a = 4)
  have gb4 : decide (a = 4) = false := by simpa using (by omega : ¬ a = 4)
  have ga5 : (a == 5) = false := by simpa using (by omega : ¬ a = 5)
  have gb5 : decide (a = 5) = false := by simpa using (by omega : ¬ a = 5)
  have ga6 : (a == 6) = false := by simpa using (by omega : ¬ a = 6)
  have gb6 : decide (a = 6) = false := by simpa using (by omega : ¬ a = 6)
  have ga7 : (a == 7) = false := by simpa using (by omega : ¬ a = 7)
  have gb7 : decide (a = 7) = false := by simpa using (by omega : ¬ a = 7)
  have ga8 : (a == 8) = false := by simpa using (by omega : ¬ a = 8)
  have gb8 : decide (a = 8) = false := by simpa using (by omega : ¬ a = 8)
  have ga9 : (a == 9) = false := by simpa using (by omega : ¬ a = 9)
  have gb9 : decide (a = 9) = false := by simpa using (by omega : ¬ a = 9)
  have ga10 : (a == 10) = false := by simpa using (by omega : ¬ a = 10)
  have gb10 : decide (a = 10) = false := by simpa using (by omega : ¬ a = 10)
  clear hS hO hk hk0 eF eS ha
  go_enter Tryd.func65, Tryd.ntmps65
  go_wp2_with fail
  refine (HK.out _ (Below.refl _ _)).mono ?_
  rintro e' w3 ⟨rfl, hb3⟩
  go_wp2_with fail
  refine (chain_any ((0 : Nat) : Int) _ rfl _).mono ?_
  rintro e' w5 ⟨v, rfl, hch, hb5⟩
  have B5 : Below w.heap.size w w5 := bt (ba hb3) hb5
  go_wp2
  go_ret
  exact ⟨_, rfl, ⟨0, _, _, _, hch.base (ba hb3).size, HC.out, HS.out⟩, B5⟩
theorem walk_any {sb lim : Nat} {A : Option Addr} {c : Nat} {L : List En} {w : World} (hS : StoreAt w sb lim A c L) (hL : L.length ≤ 1048576) (hO : Ord L.length (kdN L) (prN L) (enN L)) (n : Nat) (a : Int) :
    Calls Tryd.prog 65 #[.pointer (some ⟨sb, 0, none⟩), .int .i64 (n : Int), .int .i64 a] w fun e w' => ∃ v, e = .returned v ∧ IterV w w' sb lim A c L (axL L.length (kdN L) (prN L) (enN L) n a) v ∧ Below w.heap.size w w' := by
  by_cases h : n = 0 ∨ L.length < n
  · exact walk_out hS hL hO n a h
  · have h1 : 1 ≤ n := by omega
    have h2 : n ≤ L.length := by omega
    by_cases e : 1 ≤ a ∧ a ≤ 10
    · have : a = 1 ∨ a = 2 ∨ a = 3 ∨ a = 4 ∨ a = 5 ∨ a = 6 ∨ a = 7 ∨ a = 8 ∨ a = 9 ∨ a = 10 := by omega
      rcases this with rfl | rfl | rfl | rfl | rfl | rfl | rfl | rfl | rfl | rfl
      · exact walk_1 hS hL hO n h1 h2
      · exact walk_2 hS hL hO n h1 h2
      · exact walk_3 hS hL hO n h1 h2
      · exact walk_4 hS hL hO n h1 h2
      · exact walk_5 hS hL hO n h1 h2
      · exact walk_6 hS hL hO n h1 h2
      · exact walk_7 hS hL hO n h1 h2
      · exact walk_8 hS hL hO n h1 h2
      · exact walk_9 hS hL hO n h1 h2
      · exact walk_10 hS hL hO n h1 h2
    · exact walk_none hS hL hO n a h1 h2 e
end Go.Proofs.YtcmlfkoeajpliaaDoor
namespace Go.Proofs.YtcmlfkoeajpliaaDoor
open Go.RowKit Go.Lib Go.Shelf
set_option maxRecDepth 100000
set_option maxHeartbeats 8000000
attribute [local go_sem] Oper.semAt_some
theorem Ch.unique {f : Nat → Nat} : ∀ {m : Nat} {xs ys : List Nat}, Ch f m xs → Ch f m ys → xs = ys
  | _, [], [], _, _ => rfl
  | _, [], _ :: _, h, ⟨h1, h2, _⟩ => absurd (h1.symm.trans h) h2
  | _, _ :: _, [], ⟨h1, h2, _⟩, h => absurd (h1.symm.trans h) h2
  | _, x :: xs, y :: ys, ⟨h1, _, h3⟩, ⟨k1, _, k3⟩ => by
    have e : x = y := h1.symm.trans k1
    subst e
    rw [Ch.unique h3 k3]
open Classical in
/-- How many are still to come. -/
noncomputable def chLen (f : Nat → Nat) (v : Value) : Nat :=
  if h : ∃ r : Nat × List Nat, v = .int .i64 (r.1 : Int) ∧ Ch f r.1 r.2 then (Classical.choose h).2.length else 0
theorem chLen_eq {f : Nat → Nat} {m : Nat} {xs : List Nat} (h : Ch f m xs) : chLen f (.int .i64 (m : Int)) = xs.length := by
  have hex : ∃ r : Nat × List Nat, Value.int .i64 (m : Int) = .int .i64 (r.1 : Int) ∧ Ch f r.1 r.2 := ⟨(m, xs), rfl, h⟩
  unfold chLen
  rw [dif_pos hex]
  obtain ⟨e, hl⟩ := Classical.choose_spec hex
  have e' : m = (Classical.choose hex).1 := by
    have : (m : Int) = ((Classical.choose hex).1 : Int) := by simpa using e
    omega
  rw [← e'] at hl
  rw [Ch.unique hl h]
theorem chain_in (n l b1 b2 : Nat) (hn : 1 ≤ n) (fa first : Nat) (fst : Array Value) (ea : ∀ args w, (callFunc fa args).run Tryd.prog w = .ok (.enter fa args) w) (f : Nat → Nat) (xs : List Nat) (hc : Ch f first xs) (St : World → Prop) (Kp : World → World → Prop)
    (hf : ∀ x ∈ xs, ∀ W, St W → Calls Tryd.prog fa (fst.push (.int .i64 (x : Int))) W fun e w' => e = .returned (.int .i64 (f x : Int)) ∧ Below W.heap.size W w')
    (hSb : ∀ W W', St W → Below W.heap.size W W' → St W') (hSk : ∀ W W', St W → Kp W W' → St W')
    (hSc : ∀ W, St W → W.cell? ⟨b1, 0, none⟩ = some (.int .i64 (first : Int)) ∧ W.cell? ⟨b2, 0, none⟩ = some (.func (.func fa) fst #[]))
    (J Jx : List Nat → World → Prop) (W : World) (hJ : AbidesFrom W.heap.size J)
    (hY : ∀ (pre : List Nat) (x : Nat) (W1 : World), J pre W1 → pre.length < xs.length → YieldAt Fence.wide (n - 1) Tryd.prog l #[.int .i64 (x : Int)] W1 fun e W' =>
      (e = .returned (.bool true) ∧ J (pre ++ [x]) W' ∧ Kp W1 W') ∨ (e = .returned (.bool false) ∧ Jx (pre ++ [x]) W'))
    (h0 : J [] W) (hS : St W) :
    CallsIn Fence.wide n Tryd.prog 108 #[.func (.yield l) #[] #[], .pointer (some ⟨b1, 0, none⟩), .pointer (some ⟨b2, 0, none⟩)] W fun e W' => (∃ v, e = .returned v) ∧
      ((∃ ys, ys = xs ∧ J ys W') ∨ (∃ pre, pre <+: xs ∧ Jx pre W')) := by
  refine callsIn_of_wp Tryd.func108 rfl trivial ?_ rfl
  simp only [Tryd.ntmps108, List.size_toArray, List.length_cons, List.length_nil, Nat.reduceAdd, Nat.reduceSub, Array.replicate_succ, Array.replicate_zero, List.push_toArray, List.append_toArray, List.nil_append, List.cons_append]
  have hc1 := (hSc W hS).1
  have HJ := Lib.hid hJ; have HSB := Lib.hid hSb
  clear hJ hSb
  gi_wp2
  gi_loopw [4] (fun p wr => ∃ (pre rest : List Nat) (q : Nat), p = .int .i64 (q : Int) ∧ xs = pre ++ rest ∧ Ch f q rest ∧ J pre wr ∧ St wr)
    (fun p _ => chLen f p)
  case atStart =>
    exact ⟨[], xs, first, rfl, rfl, hc, h0, hS⟩
  case round =>
    obtain ⟨pre, rest, q, rfl, hx, hl, hJs, hSs⟩ := hrel
    cases rest with
    | nil =>
      obtain rfl : q = 0 := hl
      simp only [show ((0 : Nat) : Int) = 0 from rfl]
      gi_wp2
      refine ⟨fun _ h => (by cases h), ?_⟩
      gi_wp2
      go_end0
      exact ⟨⟨_, rfl⟩, .inl ⟨pre, by simp [hx], hJs⟩⟩
    | cons x rest =>
      have hl' := hl
      obtain ⟨rfl, hq0, hr⟩ := hl
      have g0 : ((q : Int) != 0) = true := by simpa using (by omega : ¬ (q : Int) = 0)
      have g0' : (q != 0) = true := by simpa using hq0
      have hcl := Lib.hid (fun W h => hf q (by rw [hx]; simp) W h)
      obtain ⟨fn, tmps, assign, body, hy, hR⟩ := hY pre q wr hJs (by rw [hx]; simp)
      gi_wp2
      refine hR.mono ?_
      rintro e W3 (⟨rfl, hJ3, hk3⟩ | ⟨rfl, hJx3⟩)
      · have hS3 := hSk _ _ hSs hk3
        have hc2 := (hSc _ hS3).2
        have HC := Lib.hid (hcl.out W3 hS3)
        clear hY hcl hf hy hR
        gi_wp2_with fail
        refine ⟨trivial, ?_⟩
        refine (callsIn_wide.2 HC.out).mono ?_
        rintro e W4 ⟨rfl, hb4⟩
        have hJ4 : J (pre ++ [q]) W4 := HJ.out _ W3 W4 none hJ3 ⟨hb4.os, hb4.tape, hb4.output, hb4.size, fun k hk _ => hb4.block k hk⟩ (fun r e => by cases e)
        have hS4 := HSB.out _ _ hS3 hb4
        clear hb4
        gi_wp2
        go_roundw
        case rel => exact ⟨pre ++ [q], rest, f q, rfl, by simp [hx], hr, hJ4, hS4⟩
        case measure => rw [chLen_eq hr, chLen_eq hl']; simp
      · gi_wp2
        go_end0
        exact ⟨⟨_, rfl⟩, .inr ⟨pre ++ [q], ⟨rest, by simp [hx]⟩, hJx3⟩⟩
end Go.Proofs.YtcmlfkoeajpliaaDoor
