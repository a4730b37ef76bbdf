/- The statement LexTokens asks of each token of a list: a region that draws its order. No condition beyond what the theorems state. -/
import Derived.Test.YtolkfhiominjbaaGreatDoorRegA
namespace Go.Proofs.YtolkfhiominjbaaGreatDoor
open Go.RowKit Go.Lib
set_option maxRecDepth 100000
set_option maxHeartbeats 16000000
def V19I (w0 : World) (g h n m k a b lc : Nat) (x : List UInt8) (c0 c1 c2 c3 c4 c5 c6 c7 c8 c12 c14 c15 c16 c17 c18 c19 c20 c21 c22 c23 c24 c25 c26 c27 c28 c29 c30 c31 c32 c33 c34 c35 c36 c37 c38 c39 c40 c41 c42 c43 c44 c45 c46 c47 c48 c49 c50 c51 c52 c53 c54 c55 c56 c57 c58 c59 c60 c61 c62 c63 c64 c65 c66 c67 c68 c69 c70 c71 c72 c73 c74 c75 c76 c77 c78 c79 c80 c81 c82 c83 c84 c85 c86 c87 c88 c89 c90 c91 c92 c93 c94 c95 c112 c113 c114 c115 c116 c117 c118 c119 c120 c121 c122 c123 : Value) (listed : Array Bool) (A : Act) (w : World) : Prop := ∃ (s96 s97 s98 s99 s100 s101 s102 s103 s104 s105 s106 s107 s108 s109 s110 s111 : Value), A = { tmps := #[c0, c1, c2, c3, c4, c5, c6, c7, c8, .slice (some ⟨g, 0, none⟩) m lc, .int .i64 0, .int .i64 (n : Nat), c12, .pointer (some ⟨h, 0, none⟩), c14, c15, c16, c17, c18, c19, c20, c21, c22, c23, c24, c25, c26, c27, c28, c29, c30, c31, c32, c33, c34, c35, c36, c37, c38, c39, c40, c41, c42, c43, c44, c45, c46, c47, c48, c49, c50, c51, c52, c53, c54, c55, c56, c57, c58, c59, c60, c61, c62, c63, c64, c65, c66, c67, c68, c69, c70, c71, c72, c73, c74, c75, c76, c77, c78, c79, c80, c81, c82, c83, c84, c85, c86, c87, c88, c89, c90, c91, c92, c93, c94, c95, s96, s97, s98, s99, s100, s101, s102, s103, s104, s105, s106, s107, s108, s109, s110, s111, c112, c113, c114, c115, c116, c117, c118, c119, c120, c121, c122, c123], defers := [] } ∧
  (listed.getD 0 false = true → s96 = .int .i64 0) ∧
  (listed.getD 1 false = true → s97 = .bool true) ∧
  (listed.getD 2 false = true → s98 = .bool true) ∧
  (listed.getD 3 false = true → s99 = .int .i64 (n : Nat)) ∧
  (listed.getD 4 false = true → s100 = .slice (some ⟨g, 0, none⟩) m lc) ∧
  (listed.getD 5 false = true → s101 = .int .i64 (m : Nat)) ∧
  (listed.getD 6 false = true → s102 = .bool false) ∧
  (listed.getD 7 false = true → s103 = .bool false) ∧
  (listed.getD 8 false = true → s104 = .slice (some ⟨g, 0, none⟩) m lc) ∧
  (listed.getD 9 false = true → s105 = .int .i64 (n : Nat)) ∧
  (listed.getD 10 false = true → s106 = .pointer (some ⟨g, n * 4, none⟩)) ∧
  (listed.getD 11 false = true → s107 = .agg #[.int .i64 (k : Nat), .string (ba' x), .int .i64 (a : Nat), .int .i64 (b : Nat)]) ∧
  (listed.getD 12 false = true → s108 = .agg #[.int .i64 (k : Nat), .string (ba' x), .int .i64 (a : Nat), .int .i64 (b : Nat)]) ∧
  (listed.getD 13 false = true → s109 = .bool false) ∧
  (listed.getD 14 false = true → s110 = .bool false) ∧
  (listed.getD 15 false = true → s111 = .bool false) ∧
  Below w0.heap.size w0 w ∧
  w.cell? ⟨g, n * 4, none⟩ = some (.int .i64 (k : Nat)) ∧
  w.cell? ⟨g, n * 4 + 1, none⟩ = some (.string (ba' x)) ∧
  w.cell? ⟨g, n * 4 + 2, none⟩ = some (.int .i64 (a : Nat)) ∧
  w.cell? ⟨g, n * 4 + 3, none⟩ = some (.int .i64 (b : Nat)) ∧
  w.cell? ⟨h, 0, none⟩ = some (.int .i64 (k : Nat)) ∧
  w.cell? ⟨h, 1, none⟩ = some (.string (ba' x)) ∧
  w.cell? ⟨h, 2, none⟩ = some (.int .i64 (a : Nat)) ∧
  w.cell? ⟨h, 3, none⟩ = some (.int .i64 (b : Nat))
set_option maxRecDepth 100000 in
set_option maxHeartbeats 16000000 in
theorem V19_region (g h n m k a b lc : Nat) (x : List UInt8) (x96 x97 x98 x99 x100 x101 x102 x103 x104 x105 x106 x107 x108 x109 x110 x111 : Value) (c0 c1 c2 c3 c4 c5 c6 c7 c8 c12 c14 c15 c16 c17 c18 c19 c20 c21 c22 c23 c24 c25 c26 c27 c28 c29 c30 c31 c32 c33 c34 c35 c36 c37 c38 c39 c40 c41 c42 c43 c44 c45 c46 c47 c48 c49 c50 c51 c52 c53 c54 c55 c56 c57 c58 c59 c60 c61 c62 c63 c64 c65 c66 c67 c68 c69 c70 c71 c72 c73 c74 c75 c76 c77 c78 c79 c80 c81 c82 c83 c84 c85 c86 c87 c88 c89 c90 c91 c92 c93 c94 c95 c112 c113 c114 c115 c116 c117 c118 c119 c120 c121 c122 c123 : Value) (w0 W : World) (Q : Exit → Act → World → Prop) (hb0 : Below w0.heap.size w0 W) (C0 : W.cell? ⟨g, n * 4, none⟩ = some (.int .i64 (k : Nat))) (C1 : W.cell? ⟨g, n * 4 + 1, none⟩ = some (.string (ba' x))) (C2 : W.cell? ⟨g, n * 4 + 2, none⟩ = some (.int .i64 (a : Nat))) (C3 : W.cell? ⟨g, n * 4 + 3, none⟩ = some (.int .i64 (b : Nat))) (C4 : W.cell? ⟨h, 0, none⟩ = some (.int .i64 (k : Nat))) (C5 : W.cell? ⟨h, 1, none⟩ = some (.string (ba' x))) (C6 : W.cell? ⟨h, 2, none⟩ = some (.int .i64 (a : Nat))) (C7 : W.cell? ⟨h, 3, none⟩ = some (.int .i64 (b : Nat))) (hnm : n < m) (_q0 : decide ((m : Int) ≤ (n : Int)) = false) (q1 : decide (m ≤ n) = false)
    (hQ : ∀ (w : World) , (True) → Below w0.heap.size w0 w → Q .normal { tmps := #[c0, c1, c2, c3, c4, c5, c6, c7, c8, .slice (some ⟨g, 0, none⟩) m lc, .int .i64 0, .int .i64 (n : Nat), c12, .pointer (some ⟨h, 0, none⟩), c14, c15, c16, c17, c18, c19, c20, c21, c22, c23, c24, c25, c26, c27, c28, c29, c30, c31, c32, c33, c34, c35, c36, c37, c38, c39, c40, c41, c42, c43, c44, c45, c46, c47, c48, c49, c50, c51, c52, c53, c54, c55, c56, c57, c58, c59, c60, c61, c62, c63, c64, c65, c66, c67, c68, c69, c70, c71, c72, c73, c74, c75, c76, c77, c78, c79, c80, c81, c82, c83, c84, c85, c86, c87, c88, c89, c90, c91, c92, c93, c94, c95, .int .i64 0, .bool true, .bool true, .int .i64 (n : Nat), .slice (some ⟨g, 0, none⟩) m lc, .int .i64 (m : Nat), .bool false, .bool false, .slice (some ⟨g, 0, none⟩) m lc, .int .i64 (n : Nat), .pointer (some ⟨g, n * 4, none⟩), .agg #[.int .i64 (k : Nat), .string (ba' x), .int .i64 (a : Nat), .int .i64 (b : Nat)], .agg #[.int .i64 (k : Nat), .string (ba' x), .int .i64 (a : Nat), .int .i64 (b : Nat)], .bool false, .bool false, .bool false, c112, c113, c114, c115, c116, c117, c118, c119, c120, c121, c122, c123], defers := [] } w) :
    Code.wp Tryz.prog ((Tryz.f3.body.bind (regionOf 19)).getD .skip) Q { tmps := #[c0, c1, c2, c3, c4, c5, c6, c7, c8, .slice (some ⟨g, 0, none⟩) m lc, .int .i64 0, .int .i64 (n : Nat), c12, .pointer (some ⟨h, 0, none⟩), c14, c15, c16, c17, c18, c19, c20, c21, c22, c23, c24, c25, c26, c27, c28, c29, c30, c31, c32, c33, c34, c35, c36, c37, c38, c39, c40, c41, c42, c43, c44, c45, c46, c47, c48, c49, c50, c51, c52, c53, c54, c55, c56, c57, c58, c59, c60, c61, c62, c63, c64, c65, c66, c67, c68, c69, c70, c71, c72, c73, c74, c75, c76, c77, c78, c79, c80, c81, c82, c83, c84, c85, c86, c87, c88, c89, c90, c91, c92, c93, c94, c95, x96, x97, x98, x99, x100, x101, x102, x103, x104, x105, x106, x107, x108, x109, x110, x111, c112, c113, c114, c115, c116, c117, c118, c119, c120, c121, c122, c123], defers := [] } W := by
  conv => arg 2; whnf
  refine wp_region_inv (by kernel_rfl) (by kernel_rfl) (V19I w0 g h n m k a b lc x c0 c1 c2 c3 c4 c5 c6 c7 c8 c12 c14 c15 c16 c17 c18 c19 c20 c21 c22 c23 c24 c25 c26 c27 c28 c29 c30 c31 c32 c33 c34 c35 c36 c37 c38 c39 c40 c41 c42 c43 c44 c45 c46 c47 c48 c49 c50 c51 c52 c53 c54 c55 c56 c57 c58 c59 c60 c61 c62 c63 c64 c65 c66 c67 c68 c69 c70 c71 c72 c73 c74 c75 c76 c77 c78 c79 c80 c81 c82 c83 c84 c85 c86 c87 c88 c89 c90 c91 c92 c93 c94 c95 c112 c113 c114 c115 c116 c117 c118 c119 c120 c121 c122 c123) ?_ ?_ ?_
  · exact ⟨_, _, _, _, _, _, _, _, _, _, _, _, _, _, _, _, rfl, fun h => absurd h l0, fun h => absurd h l0, fun h => absurd h l0, fun h => absurd h l0, fun h => absurd h l0, fun h => absurd h l0, fun h => absurd h l0, fun h => absurd h l0, fun h => absurd h l0, fun h => absurd h l0, fun h => absurd h l0, fun h => absurd h l0, fun h => absurd h l0, fun h => absurd h l0, fun h => absurd h l0, fun h => absurd h l0, bdr hb0, C0, C1, C2, C3, C4, C5, C6, C7⟩
  · intro i o listed A w hi ho hd hn hI
    unfold V19I at hI
    obtain ⟨s96, hI⟩ := hI
    obtain ⟨s97, hI⟩ := hI
    obtain ⟨s98, hI⟩ := hI
    obtain ⟨s99, hI⟩ := hI
    obtain ⟨s100, hI⟩ := hI
    obtain ⟨s101, hI⟩ := hI
    obtain ⟨s102, hI⟩ := hI
    obtain ⟨s103, hI⟩ := hI
    obtain ⟨s104, hI⟩ := hI
    obtain ⟨s105, hI⟩ := hI
    obtain ⟨s106, hI⟩ := hI
    obtain ⟨s107, hI⟩ := hI
    obtain ⟨s108, hI⟩ := hI
    obtain ⟨s109, hI⟩ := hI
    obtain ⟨s110, hI⟩ := hI
    obtain ⟨s111, hI⟩ := hI
    obtain ⟨rfl, hI⟩ := hI
    obtain ⟨F0, hI⟩ := hI
    obtain ⟨F1, hI⟩ := hI
    obtain ⟨F2, hI⟩ := hI
    obtain ⟨F3, hI⟩ := hI
    obtain ⟨F4, hI⟩ := hI
    obtain ⟨F5, hI⟩ := hI
    obtain ⟨F6, hI⟩ := hI
    obtain ⟨F7, hI⟩ := hI
    obtain ⟨F8, hI⟩ := hI
    obtain ⟨F9, hI⟩ := hI
    obtain ⟨F10, hI⟩ := hI
    obtain ⟨F11, hI⟩ := hI
    obtain ⟨F12, hI⟩ := hI
    obtain ⟨F13, hI⟩ := hI
    obtain ⟨F14, hI⟩ := hI
    obtain ⟨F15, hI⟩ := hI
    obtain ⟨F16, hI⟩ := hI
    obtain ⟨F17, hI⟩ := hI
    obtain ⟨F18, hI⟩ := hI
    obtain ⟨F19, hI⟩ := hI
    obtain ⟨F20, hI⟩ := hI
    obtain ⟨F21, hI⟩ := hI
    obtain ⟨F22, hI⟩ := hI
    obtain ⟨F23, hI⟩ := hI
    have F24 := hI; clear hI
    have hi' : i < 16 := hi
    clear hi
    rcases (by omega : i = 0 ∨ i = 1 ∨ i = 2 ∨ i = 3 ∨ i = 4 ∨ i = 5 ∨ i = 6 ∨ i = 7 ∨ i = 8 ∨ i = 9 ∨ i = 10 ∨ i = 11 ∨ i = 12 ∨ i = 13 ∨ i = 14 ∨ i = 15) with rfl | rfl | rfl | rfl | rfl | rfl | rfl | rfl | rfl | rfl | rfl | rfl | rfl | rfl | rfl | rfl
    · simp only [List.getElem?_toArray, List.getElem?_cons_zero, Option.some.injEq] at ho
      subst ho
      refine wpOp_step rfl (fun K hK => ?_)
      go_simp
      refine hK _ _ ?_
      exact ⟨_, _, _, _, _, _, _, _, _, _, _, _, _, _, _, _, rfl, fun _ => rfl, lk F1, lk F2, lk F3, lk F4, lk F5, lk F6, lk F7, lk F8, lk F9, lk F10, lk F11, lk F12, lk F13, lk F14, lk F15, F16, F17, F18, F19, F20, F21, F22, F23, F24⟩
    · simp only [List.getElem?_toArray, List.getElem?_cons_zero, List.getElem?_cons_succ, Option.some.injEq] at ho
      subst ho
      obtain rfl := F0 (hd ⟨0, .data⟩ (by simp) rfl)
      refine wpOp_step rfl (fun K hK => ?_)
      go_simp
      refine hK _ _ ?_
      exact ⟨_, _, _, _, _, _, _, _, _, _, _, _, _, _, _, _, rfl, lk F0, fun _ => rfl, lk F2, lk F3, lk F4, lk F5, lk F6, lk F7, lk F8, lk F9, lk F10, lk F11, lk F12, lk F13, lk F14, lk F15, F16, F17, F18, F19, F20, F21, F22, F23, F24⟩
    · simp only [List.getElem?_toArray, List.getElem?_cons_zero, List.getElem?_cons_succ, Option.some.injEq] at ho
      subst ho
      obtain rfl := F1 (hd ⟨1, .data⟩ (by simp) rfl)
      refine wpOp_step rfl (fun K hK => ?_)
      go_simp
      refine hK _ _ ?_
      exact ⟨_, _, _, _, _, _, _, _, _, _, _, _, _, _, _, _, rfl, lk F0, lk F1, fun _ => rfl, lk F3, lk F4, lk F5, lk F6, lk F7, lk F8, lk F9, lk F10, lk F11, lk F12, lk F13, lk F14, lk F15, F16, F17, F18, F19, F20, F21, F22, F23, F24⟩
    · simp only [List.getElem?_toArray, List.getElem?_cons_zero, List.getElem?_cons_succ, Option.some.injEq] at ho
      subst ho
      obtain rfl := F2 (hd ⟨2, .guard⟩ (by simp) rfl)
      refine wpOp_step rfl (fun K hK => ?_)
      go_simp
      refine hK _ _ ?_
      exact ⟨_, _, _, _, _, _, _, _, _, _, _, _, _, _, _, _, rfl, lk F0, lk F1, lk F2, fun _ => rfl, lk F4, lk F5, lk F6, lk F7, lk F8, lk F9, lk F10, lk F11, lk F12, lk F13, lk F14, lk F15, F16, F17, F18, F19, F20, F21, F22, F23, F24⟩
    · simp only [List.getElem?_toArray, List.getElem?_cons_zero, List.getElem?_cons_succ, Option.some.injEq] at ho
      subst ho
      obtain rfl := F2 (hd ⟨2, .guard⟩ (by simp) rfl)
      refine wpOp_step rfl (fun K hK => ?_)
      go_simp
      refine hK _ _ ?_
      exact ⟨_, _, _, _, _, _, _, _, _, _, _, _, _, _, _, _, rfl, lk F0, lk F1, lk F2, lk F3, fun _ => rfl, lk F5, lk F6, lk F7, lk F8, lk F9, lk F10, lk F11, lk F12, lk F13, lk F14, lk F15, F16, F17, F18, F19, F20, F21, F22, F23, F24⟩
    · simp only [List.getElem?_toArray, List.getElem?_cons_zero, List.getElem?_cons_succ, Option.some.injEq] at ho
      subst ho
      obtain rfl := F4 (hd ⟨4, .data⟩ (by simp) rfl)
      obtain rfl := F2 (hd ⟨2, .guard⟩ (by simp) rfl)
      refine wpOp_step rfl (fun K hK => ?_)
      go_simp
      refine hK _ _ ?_
      exact ⟨_, _, _, _, _, _, _, _, _, _, _, _, _, _, _, _, rfl, lk F0, lk F1, lk F2, lk F3, lk F4, fun _ => rfl, lk F6, lk F7, lk F8, lk F9, lk F10, lk F11, lk F12, lk F13, lk F14, lk F15, F16, F17, F18, F19, F20, F21, F22, F23, F24⟩
    · simp only [List.getElem?_toArray, List.getElem?_cons_zero, List.getElem?_cons_succ, Option.some.injEq] at ho
      subst ho
      obtain rfl := F3 (hd ⟨3, .data⟩ (by simp) rfl)
      obtain rfl := F5 (hd ⟨5, .data⟩ (by simp) rfl)
      obtain rfl := F2 (hd ⟨2, .guard⟩ (by simp) rfl)
      refine wpOp_step rfl (fun K hK => ?_)
      go_simp
      refine hK _ _ ?_
      exact ⟨_, _, _, _, _, _, _, _, _, _, _, _, _, _, _, _, rfl, lk F0, lk F1, lk F2, lk F3, lk F4, lk F5, fun _ => rfl, lk F7, lk F8, lk F9, lk F10, lk F11, lk F12, lk F13, lk F14, lk F15, F16, F17, F18, F19, F20, F21, F22, F23, F24⟩
    · simp only [List.getElem?_toArray, List.getElem?_cons_zero, List.getElem?_cons_succ, Option.some.injEq] at ho
      subst ho
      obtain rfl := F6 (hd ⟨6, .data⟩ (by simp) rfl)
      obtain rfl := F2 (hd ⟨2, .guard⟩ (by simp) rfl)
      refine wpOp_step rfl (fun K hK => ?_)
      go_simp
      refine hK _ _ ?_
      exact ⟨_, _, _, _, _, _, _, _, _, _, _, _, _, _, _, _, rfl, lk F0, lk F1, lk F2, lk F3, lk F4, lk F5, lk F6, fun _ => rfl, lk F8, lk F9, lk F10, lk F11, lk F12, lk F13, lk F14, lk F15, F16, F17, F18, F19, F20, F21, F22, F23, F24⟩
    · simp only [List.getElem?_toArray, List.getElem?_cons_zero, List.getElem?_cons_succ, Option.some.injEq] at ho
      subst ho
      obtain rfl := F7 (hd ⟨7, .guard⟩ (by simp) rfl)
      refine wpOp_step rfl (fun K hK => ?_)
      go_simp
      refine hK _ _ ?_
      exact ⟨_, _, _, _, _, _, _, _, _, _, _, _, _, _, _, _, rfl, lk F0, lk F1, lk F2, lk F3, lk F4, lk F5, lk F6, lk F7, fun _ => rfl, lk F9, lk F10, lk F11, lk F12, lk F13, lk F14, lk F15, F16, F17, F18, F19, F20, F21, F22, F23, F24⟩
    · simp only [List.getElem?_toArray, List.getElem?_cons_zero, List.getElem?_cons_succ, Option.some.injEq] at ho
      subst ho
      obtain rfl := F7 (hd ⟨7, .guard⟩ (by simp) rfl)
      refine wpOp_step rfl (fun K hK => ?_)
      go_simp
      refine hK _ _ ?_
      exact ⟨_, _, _, _, _, _, _, _, _, _, _, _, _, _, _, _, rfl, lk F0, lk F1, lk F2, lk F3, lk F4, lk F5, lk F6, lk F7, lk F8, fun _ => rfl, lk F10, lk F11, lk F12, lk F13, lk F14, lk F15, F16, F17, F18, F19, F20, F21, F22, F23, F24⟩
    · simp only [List.getElem?_toArray, List.getElem?_cons_zero, List.getElem?_cons_succ, Option.some.injEq] at ho
      subst ho
      obtain rfl := F8 (hd ⟨8, .data⟩ (by simp) rfl)
      obtain rfl := F9 (hd ⟨9, .data⟩ (by simp) rfl)
      obtain rfl := F7 (hd ⟨7, .guard⟩ (by simp) rfl)
      refine wpOp_step rfl (fun K hK => ?_)
      go_simp
      refine hK _ _ ?_
      exact ⟨_, _, _, _, _, _, _, _, _, _, _, _, _, _, _, _, rfl, lk F0, lk F1, lk F2, lk F3, lk F4, lk F5, lk F6, lk F7, lk F8, lk F9, fun _ => rfl, lk F11, lk F12, lk F13, lk F14, lk F15, F16, F17, F18, F19, F20, F21, F22, F23, F24⟩
    · simp only [List.getElem?_toArray, List.getElem?_cons_zero, List.getElem?_cons_succ, Option.some.injEq] at ho
      subst ho
      obtain rfl := F10 (hd ⟨10, .data⟩ (by simp) rfl)
      obtain rfl := F7 (hd ⟨7, .guard⟩ (by simp) rfl)
      have h0 := F17; have h1 := F18; have h2 := F19; have h3 := F20; have h4 := F21; have h5 := F22; have h6 := F23; have h7 := F24
      refine wpOp_step rfl (fun K hK => ?_)
      go_simp
      refine hK _ _ ?_
      exact ⟨_, _, _, _, _, _, _, _, _, _, _, _, _, _, _, _, rfl, lk F0, lk F1, lk F2, lk F3, lk F4, lk F5, lk F6, lk F7, lk F8, lk F9, lk F10, fun _ => rfl, lk F12, lk F13, lk F14, lk F15, F16, F17, F18, F19, F20, F21, F22, F23, F24⟩
    · simp only [List.getElem?_toArray, List.getElem?_cons_zero, List.getElem?_cons_succ, Option.some.injEq] at ho
      subst ho
      obtain rfl := F7 (hd ⟨7, .guard⟩ (by simp) rfl)
      have h0 := F17; have h1 := F18; have h2 := F19; have h3 := F20; have h4 := F21; have h5 := F22; have h6 := F23; have h7 := F24
      refine wpOp_step rfl (fun K hK => ?_)
      go_simp
      refine hK _ _ ?_
      exact ⟨_, _, _, _, _, _, _, _, _, _, _, _, _, _, _, _, rfl, lk F0, lk F1, lk F2, lk F3, lk F4, lk F5, lk F6, lk F7, lk F8, lk F9, lk F10, lk F11, fun _ => rfl, lk F13, lk F14, lk F15, F16, F17, F18, F19, F20, F21, F22, F23, F24⟩
    · simp only [List.getElem?_toArray, List.getElem?_cons_zero, List.getElem?_cons_succ, Option.some.injEq] at ho
      subst ho
      obtain rfl := F11 (hd ⟨11, .data⟩ (by simp) rfl)
      obtain rfl := F12 (hd ⟨12, .data⟩ (by simp) rfl)
      obtain rfl := F7 (hd ⟨7, .guard⟩ (by simp) rfl)
      refine wpOp_step rfl (fun K hK => ?_)
      go_simp
      refine hK _ _ ?_
      exact ⟨_, _, _, _, _, _, _, _, _, _, _, _, _, _, _, _, rfl, lk F0, lk F1, lk F2, lk F3, lk F4, lk F5, lk F6, lk F7, lk F8, lk F9, lk F10, lk F11, lk F12, fun _ => rfl, lk F14, lk F15, F16, F17, F18, F19, F20, F21, F22, F23, F24⟩
    · simp only [List.getElem?_toArray, List.getElem?_cons_zero, List.getElem?_cons_succ, Option.some.injEq] at ho
      subst ho
      obtain rfl := F7 (hd ⟨7, .data⟩ (by simp) rfl)
      obtain rfl := F13 (hd ⟨13, .data⟩ (by simp) rfl)
      obtain rfl := F2 (hd ⟨2, .guard⟩ (by simp) rfl)
      refine wpOp_step rfl (fun K hK => ?_)
      go_simp
      refine hK _ _ ?_
      exact ⟨_, _, _, _, _, _, _, _, _, _, _, _, _, _, _, _, rfl, lk F0, lk F1, lk F2, lk F3, lk F4, lk F5, lk F6, lk F7, lk F8, lk F9, lk F10, lk F11, lk F12, lk F13, fun _ => rfl, lk F15, F16, F17, F18, F19, F20, F21, F22, F23, F24⟩
    · simp only [List.getElem?_toArray, List.getElem?_cons_zero, List.getElem?_cons_succ, Option.some.injEq] at ho
      subst ho
      obtain rfl := F2 (hd ⟨2, .data⟩ (by simp) rfl)
      obtain rfl := F14 (hd ⟨14, .data⟩ (by simp) rfl)
      refine wpOp_step rfl (fun K hK => ?_)
      go_simp
      refine hK _ _ ?_
      exact ⟨_, _, _, _, _, _, _, _, _, _, _, _, _, _, _, _, rfl, lk F0, lk F1, lk F2, lk F3, lk F4, lk F5, lk F6, lk F7, lk F8, lk F9, lk F10, lk F11, lk F12, lk F13, lk F14, fun _ => rfl, F16, F17, F18, F19, F20, F21, F22, F23, F24⟩
  · intro listed A w hall hI
    unfold V19I at hI
    obtain ⟨s96, hI⟩ := hI
    obtain ⟨s97, hI⟩ := hI
    obtain ⟨s98, hI⟩ := hI
    obtain ⟨s99, hI⟩ := hI
    obtain ⟨s100, hI⟩ := hI
    obtain ⟨s101, hI⟩ := hI
    obtain ⟨s102, hI⟩ := hI
    obtain ⟨s103, hI⟩ := hI
    obtain ⟨s104, hI⟩ := hI
    obtain ⟨s105, hI⟩ := hI
    obtain ⟨s106, hI⟩ := hI
    obtain ⟨s107, hI⟩ := hI
    obtain ⟨s108, hI⟩ := hI
    obtain ⟨s109, hI⟩ := hI
    obtain ⟨s110, hI⟩ := hI
    obtain ⟨s111, hI⟩ := hI
    obtain ⟨rfl, hI⟩ := hI
    obtain ⟨F0, hI⟩ := hI
    obtain ⟨F1, hI⟩ := hI
    obtain ⟨F2, hI⟩ := hI
    obtain ⟨F3, hI⟩ := hI
    obtain ⟨F4, hI⟩ := hI
    obtain ⟨F5, hI⟩ := hI
    obtain ⟨F6, hI⟩ := hI
    obtain ⟨F7, hI⟩ := hI
    obtain ⟨F8, hI⟩ := hI
    obtain ⟨F9, hI⟩ := hI
    obtain ⟨F10, hI⟩ := hI
    obtain ⟨F11, hI⟩ := hI
    obtain ⟨F12, hI⟩ := hI
    obtain ⟨F13, hI⟩ := hI
    obtain ⟨F14, hI⟩ := hI
    obtain ⟨F15, hI⟩ := hI
    obtain ⟨F16, hI⟩ := hI
    obtain ⟨F17, hI⟩ := hI
    obtain ⟨F18, hI⟩ := hI
    obtain ⟨F19, hI⟩ := hI
    obtain ⟨F20, hI⟩ := hI
    obtain ⟨F21, hI⟩ := hI
    obtain ⟨F22, hI⟩ := hI
    obtain ⟨F23, hI⟩ := hI
    have F24 := hI; clear hI
    obtain rfl := F0 (hall 0 (by decide))
    obtain rfl := F1 (hall 1 (by decide))
    obtain rfl := F2 (hall 2 (by decide))
    obtain rfl := F3 (hall 3 (by decide))
    obtain rfl := F4 (hall 4 (by decide))
    obtain rfl := F5 (hall 5 (by decide))
    obtain rfl := F6 (hall 6 (by decide))
    obtain rfl := F7 (hall 7 (by decide))
    obtain rfl := F8 (hall 8 (by decide))
    obtain rfl := F9 (hall 9 (by decide))
    obtain rfl := F10 (hall 10 (by decide))
    obtain rfl := F11 (hall 11 (by decide))
    obtain rfl := F12 (hall 12 (by decide))
    obtain rfl := F13 (hall 13 (by decide))
    obtain rfl := F14 (hall 14 (by decide))
    obtain rfl := F15 (hall 15 (by decide))
    have HB := F16
    have Q0 := F17
    have Q1 := F18
    have Q2 := F19
    have Q3 := F20
    have Q4 := F21
    have Q5 := F22
    have Q6 := F23
    have Q7 := F24
    exact hQ _ trivial HB
def V18I (w0 : World) (e0 : Int) (c0 c1 c2 c3 c4 c5 c6 c7 c8 c9 c11 c12 c13 c14 c15 c16 c17 c18 c19 c20 c21 c22 c23 c24 c25 c26 c27 c28 c29 c30 c31 c32 c33 c34 c35 c36 c37 c38 c39 c40 c41 c42 c43 c44 c45 c46 c47 c48 c49 c50 c51 c52 c53 c54 c55 c56 c57 c58 c59 c60 c61 c62 c63 c64 c65 c66 c67 c68 c69 c70 c71 c72 c73 c74 c75 c76 c77 c78 c79 c80 c81 c82 c83 c84 c85 c86 c87 c88 c89 c90 c91 c92 c93 c94 c95 c112 c113 c114 c115 c116 c117 c118 c119 c120 c121 c122 c123 : Value) (listed : Array Bool) (A : Act) (w : World) : Prop := ∃ (s96 s97 s98 s99 s100 s101 s102 s103 s104 s105 s106 s107 s108 s109 s110 s111 : Value), A = { tmps := #[c0, c1, c2, c3, c4, c5, c6, c7, c8, c9, .int .i64 e0, c11, c12, c13, c14, c15, c16, c17, c18, c19, c20, c21, c22, c23, c24, c25, c26, c27, c28, c29, c30, c31, c32, c33, c34, c35, c36, c37, c38, c39, c40, c41, c42, c43, c44, c45, c46, c47, c48, c49, c50, c51, c52, c53, c54, c55, c56, c57, c58, c59, c60, c61, c62, c63, c64, c65, c66, c67, c68, c69, c70, c71, c72, c73, c74, c75, c76, c77, c78, c79, c80, c81, c82, c83, c84, c85, c86, c87, c88, c89, c90, c91, c92, c93, c94, c95, s96, s97, s98, s99, s100, s101, s102, s103, s104, s105, s106, s107, s108, s109, s110, s111, c112, c113, c114, c115, c116, c117, c118, c119, c120, c121, c122, c123], defers := [] } ∧
  (listed.getD 0 false = true → s96 = .int .i64 e0) ∧
  (listed.getD 1 false = true → s97 = .bool false) ∧
  (listed.getD 2 false = true → s98 = .bool false) ∧
  (listed.getD 3 false = true → s99 = undef) ∧
  (listed.getD 4 false = true → s100 = undef) ∧
  (listed.getD 5 false = true → s101 = undef) ∧
  (listed.getD 6 false = true → s102 = undef) ∧
  (listed.getD 7 false = true → s103 = undef) ∧
  (listed.getD 8 false = true → s104 = undef) ∧
  (listed.getD 9 false = true → s105 = undef) ∧
  (listed.getD 10 false = true → s106 = undef) ∧
  (listed.getD 11 false = true → s107 = undef) ∧
  (listed.getD 12 false = true → s108 = undef) ∧
  (listed.getD 13 false = true → s109 = undef) ∧
  (listed.getD 14 false = true → s110 = undef) ∧
  (listed.getD 15 false = true → s111 = .bool false) ∧
  Below w0.heap.size w0 w
set_option maxRecDepth 100000 in
set_option maxHeartbeats 16000000 in
theorem V18_region (e0 : Int) (x96 x97 x98 x99 x100 x101 x102 x103 x104 x105 x106 x107 x108 x109 x110 x111 : Value) (c0 c1 c2 c3 c4 c5 c6 c7 c8 c9 c11 c12 c13 c14 c15 c16 c17 c18 c19 c20 c21 c22 c23 c24 c25 c26 c27 c28 c29 c30 c31 c32 c33 c34 c35 c36 c37 c38 c39 c40 c41 c42 c43 c44 c45 c46 c47 c48 c49 c50 c51 c52 c53 c54 c55 c56 c57 c58 c59 c60 c61 c62 c63 c64 c65 c66 c67 c68 c69 c70 c71 c72 c73 c74 c75 c76 c77 c78 c79 c80 c81 c82 c83 c84 c85 c86 c87 c88 c89 c90 c91 c92 c93 c94 c95 c112 c113 c114 c115 c116 c117 c118 c119 c120 c121 c122 c123 : Value) (w0 W : World) (Q : Exit → Act → World → Prop) (hb0 : Below w0.heap.size w0 W)  (he : (e0 == 0) = false) (_he2 : decide (e0 = 0) = false)
    (hQ : ∀ (w : World) , (True) → Below w0.heap.size w0 w → Q .normal { tmps := #[c0, c1, c2, c3, c4, c5, c6, c7, c8, c9, .int .i64 e0, c11, c12, c13, c14, c15, c16, c17, c18, c19, c20, c21, c22, c23, c24, c25, c26, c27, c28, c29, c30, c31, c32, c33, c34, c35, c36, c37, c38, c39, c40, c41, c42, c43, c44, c45, c46, c47, c48, c49, c50, c51, c52, c53, c54, c55, c56, c57, c58, c59, c60, c61, c62, c63, c64, c65, c66, c67, c68, c69, c70, c71, c72, c73, c74, c75, c76, c77, c78, c79, c80, c81, c82, c83, c84, c85, c86, c87, c88, c89, c90, c91, c92, c93, c94, c95, .int .i64 e0, .bool false, .bool false, undef, undef, undef, undef, undef, undef, undef, undef, undef, undef, undef, undef, .bool false, c112, c113, c114, c115, c116, c117, c118, c119, c120, c121, c122, c123], defers := [] } w) :
    Code.wp Tryz.prog ((Tryz.f3.body.bind (regionOf 19)).getD .skip) Q { tmps := #[c0, c1, c2, c3, c4, c5, c6, c7, c8, c9, .int .i64 e0, c11, c12, c13, c14, c15, c16, c17, c18, c19, c20, c21, c22, c23, c24, c25, c26, c27, c28, c29, c30, c31, c32, c33, c34, c35, c36, c37, c38, c39, c40, c41, c42, c43, c44, c45, c46, c47, c48, c49, c50, c51, c52, c53, c54, c55, c56, c57, c58, c59, c60, c61, c62, c63, c64, c65, c66, c67, c68, c69, c70, c71, c72, c73, c74, c75, c76, c77, c78, c79, c80, c81, c82, c83, c84, c85, c86, c87, c88, c89, c90, c91, c92, c93, c94, c95, x96, x97, x98, x99, x100, x101, x102, x103, x104, x105, x106, x107, x108, x109, x110, x111, c112, c113, c114, c115, c116, c117, c118, c119, c120, c121, c122, c123], defers := [] } W := by
  conv => arg 2; whnf
  refine wp_region_inv (by kernel_rfl) (by kernel_rfl) (V18I w0 e0 c0 c1 c2 c3 c4 c5 c6 c7 c8 c9 c11 c12 c13 c14 c15 c16 c17 c18 c19 c20 c21 c22 c23 c24 c25 c26 c27 c28 c29 c30 c31 c32 c33 c34 c35 c36 c37 c38 c39 c40 c41 c42 c43 c44 c45 c46 c47 c48 c49 c50 c51 c52 c53 c54 c55 c56 c57 c58 c59 c60 c61 c62 c63 c64 c65 c66 c67 c68 c69 c70 c71 c72 c73 c74 c75 c76 c77 c78 c79 c80 c81 c82 c83 c84 c85 c86 c87 c88 c89 c90 c91 c92 c93 c94 c95 c112 c113 c114 c115 c116 c117 c118 c119 c120 c121 c122 c123) ?_ ?_ ?_
  · exact ⟨_, _, _, _, _, _, _, _, _, _, _, _, _, _, _, _, rfl, fun h => absurd h l0, fun h => absurd h l0, fun h => absurd h l0, fun h => absurd h l0, fun h => absurd h l0, fun h => absurd h l0, fun h => absurd h l0, fun h => absurd h l0, fun h => absurd h l0, fun h => absurd h l0, fun h => absurd h l0, fun h => absurd h l0, fun h => absurd h l0, fun h => absurd h l0, fun h => absurd h l0, fun h => absurd h l0, bdr hb0⟩
  · intro i o listed A w hi ho hd hn hI
    unfold V18I at hI
    obtain ⟨s96, hI⟩ := hI
    obtain ⟨s97, hI⟩ := hI
    obtain ⟨s98, hI⟩ := hI
    obtain ⟨s99, hI⟩ := hI
    obtain ⟨s100, hI⟩ := hI
    obtain ⟨s101, hI⟩ := hI
    obtain ⟨s102, hI⟩ := hI
    obtain ⟨s103, hI⟩ := hI
    obtain ⟨s104, hI⟩ := hI
    obtain ⟨s105, hI⟩ := hI
    obtain ⟨s106, hI⟩ := hI
    obtain ⟨s107, hI⟩ := hI
    obtain ⟨s108, hI⟩ := hI
    obtain ⟨s109, hI⟩ := hI
    obtain ⟨s110, hI⟩ := hI
    obtain ⟨s111, hI⟩ := hI
    obtain ⟨rfl, hI⟩ := hI
    obtain ⟨F0, hI⟩ := hI
    obtain ⟨F1, hI⟩ := hI
    obtain ⟨F2, hI⟩ := hI
    obtain ⟨F3, hI⟩ := hI
    obtain ⟨F4, hI⟩ := hI
    obtain ⟨F5, hI⟩ := hI
    obtain ⟨F6, hI⟩ := hI
    obtain ⟨F7, hI⟩ := hI
    obtain ⟨F8, hI⟩ := hI
    obtain ⟨F9, hI⟩ := hI
    obtain ⟨F10, hI⟩ := hI
    obtain ⟨F11, hI⟩ := hI
    obtain ⟨F12, hI⟩ := hI
    obtain ⟨F13, hI⟩ := hI
    obtain ⟨F14, hI⟩ := hI
    obtain ⟨F15, hI⟩ := hI
    have F16 := hI; clear hI
    have hi' : i < 16 := hi
    clear hi
    rcases (by omega : i = 0 ∨ i = 1 ∨ i = 2 ∨ i = 3 ∨ i = 4 ∨ i = 5 ∨ i = 6 ∨ i = 7 ∨ i = 8 ∨ i = 9 ∨ i = 10 ∨ i = 11 ∨ i = 12 ∨ i = 13 ∨ i = 14 ∨ i = 15) with rfl | rfl | rfl | rfl | rfl | rfl | rfl | rfl | rfl | rfl | rfl | rfl | rfl | rfl | rfl | rfl
    · simp only [List.getElem?_toArray, List.getElem?_cons_zero, Option.some.injEq] at ho
      subst ho
      refine wpOp_step rfl (fun K hK => ?_)
      go_simp
      refine hK _ _ ?_
      exact ⟨_, _, _, _, _, _, _, _, _, _, _, _, _, _, _, _, rfl, fun _ => rfl, lk F1, lk F2, lk F3, lk F4, lk F5, lk F6, lk F7, lk F8, lk F9, lk F10, lk F11, lk F12, lk F13, lk F14, lk F15, F16⟩
    · simp only [List.getElem?_toArray, List.getElem?_cons_zero, List.getElem?_cons_succ, Option.some.injEq] at ho
      subst ho
      obtain rfl := F0 (hd ⟨0, .data⟩ (by simp) rfl)
      refine wpOp_step rfl (fun K hK => ?_)
      go_simp
      refine hK _ _ ?_
      exact ⟨_, _, _, _, _, _, _, _, _, _, _, _, _, _, _, _, rfl, lk F0, fun _ => rfl, lk F2, lk F3, lk F4, lk F5, lk F6, lk F7, lk F8, lk F9, lk F10, lk F11, lk F12, lk F13, lk F14, lk F15, F16⟩
    · simp only [List.getElem?_toArray, List.getElem?_cons_zero, List.getElem?_cons_succ, Option.some.injEq] at ho
      subst ho
      obtain rfl := F1 (hd ⟨1, .data⟩ (by simp) rfl)
      refine wpOp_step rfl (fun K hK => ?_)
      go_simp
      refine hK _ _ ?_
      exact ⟨_, _, _, _, _, _, _, _, _, _, _, _, _, _, _, _, rfl, lk F0, lk F1, fun _ => rfl, lk F3, lk F4, lk F5, lk F6, lk F7, lk F8, lk F9, lk F10, lk F11, lk F12, lk F13, lk F14, lk F15, F16⟩
    · simp only [List.getElem?_toArray, List.getElem?_cons_zero, List.getElem?_cons_succ, Option.some.injEq] at ho
      subst ho
      obtain rfl := F2 (hd ⟨2, .guard⟩ (by simp) rfl)
      refine wpOp_step rfl (fun K hK => ?_)
      go_simp
      refine hK _ _ ?_
      exact ⟨_, _, _, _, _, _, _, _, _, _, _, _, _, _, _, _, rfl, lk F0, lk F1, lk F2, fun _ => rfl, lk F4, lk F5, lk F6, lk F7, lk F8, lk F9, lk F10, lk F11, lk F12, lk F13, lk F14, lk F15, F16⟩
    · simp only [List.getElem?_toArray, List.getElem?_cons_zero, List.getElem?_cons_succ, Option.some.injEq] at ho
      subst ho
      obtain rfl := F2 (hd ⟨2, .guard⟩ (by simp) rfl)
      refine wpOp_step rfl (fun K hK => ?_)
      go_simp
      refine hK _ _ ?_
      exact ⟨_, _, _, _, _, _, _, _, _, _, _, _, _, _, _, _, rfl, lk F0, lk F1, lk F2, lk F3, fun _ => rfl, lk F5, lk F6, lk F7, lk F8, lk F9, lk F10, lk F11, lk F12, lk F13, lk F14, lk F15, F16⟩
    · simp only [List.getElem?_toArray, List.getElem?_cons_zero, List.getElem?_cons_succ, Option.some.injEq] at ho
      subst ho
      obtain rfl := F2 (hd ⟨2, .guard⟩ (by simp) rfl)
      refine wpOp_step rfl (fun K hK => ?_)
      go_simp
      refine hK _ _ ?_
      exact ⟨_, _, _, _, _, _, _, _, _, _, _, _, _, _, _, _, rfl, lk F0, lk F1, lk F2, lk F3, lk F4, fun _ => rfl, lk F6, lk F7, lk F8, lk F9, lk F10, lk F11, lk F12, lk F13, lk F14, lk F15, F16⟩
    · simp only [List.getElem?_toArray, List.getElem?_cons_zero, List.getElem?_cons_succ, Option.some.injEq] at ho
      subst ho
      obtain rfl := F2 (hd ⟨2, .guard⟩ (by simp) rfl)
      refine wpOp_step rfl (fun K hK => ?_)
      go_simp
      refine hK _ _ ?_
      exact ⟨_, _, _, _, _, _, _, _, _, _, _, _, _, _, _, _, rfl, lk F0, lk F1, lk F2, lk F3, lk F4, lk F5, fun _ => rfl, lk F7, lk F8, lk F9, lk F10, lk F11, lk F12, lk F13, lk F14, lk F15, F16⟩
    · simp only [List.getElem?_toArray, List.getElem?_cons_zero, List.getElem?_cons_succ, Option.some.injEq] at ho
      subst ho
      obtain rfl := F2 (hd ⟨2, .guard⟩ (by simp) rfl)
      refine wpOp_step rfl (fun K hK => ?_)
      go_simp
      refine hK _ _ ?_
      exact ⟨_, _, _, _, _, _, _, _, _, _, _, _, _, _, _, _, rfl, lk F0, lk F1, lk F2, lk F3, lk F4, lk F5, lk F6, fun _ => rfl, lk F8, lk F9, lk F10, lk F11, lk F12, lk F13, lk F14, lk F15, F16⟩
    · simp only [List.getElem?_toArray, List.getElem?_cons_zero, List.getElem?_cons_succ, Option.some.injEq] at ho
      subst ho
      obtain rfl := F7 (hd ⟨7, .guard⟩ (by simp) rfl)
      refine wpOp_step rfl (fun K hK => ?_)
      go_simp
      refine hK _ _ ?_
      exact ⟨_, _, _, _, _, _, _, _, _, _, _, _, _, _, _, _, rfl, lk F0, lk F1, lk F2, lk F3, lk F4, lk F5, lk F6, lk F7, fun _ => rfl, lk F9, lk F10, lk F11, lk F12, lk F13, lk F14, lk F15, F16⟩
    · simp only [List.getElem?_toArray, List.getElem?_cons_zero, List.getElem?_cons_succ, Option.some.injEq] at ho
      subst ho
      obtain rfl := F7 (hd ⟨7, .guard⟩ (by simp) rfl)
      refine wpOp_step rfl (fun K hK => ?_)
      go_simp
      refine hK _ _ ?_
      exact ⟨_, _, _, _, _, _, _, _, _, _, _, _, _, _, _, _, rfl, lk F0, lk F1, lk F2, lk F3, lk F4, lk F5, lk F6, lk F7, lk F8, fun _ => rfl, lk F10, lk F11, lk F12, lk F13, lk F14, lk F15, F16⟩
    · simp only [List.getElem?_toArray, List.getElem?_cons_zero, List.getElem?_cons_succ, Option.some.injEq] at ho
      subst ho
      obtain rfl := F7 (hd ⟨7, .guard⟩ (by simp) rfl)
      refine wpOp_step rfl (fun K hK => ?_)
      go_simp
      refine hK _ _ ?_
      exact ⟨_, _, _, _, _, _, _, _, _, _, _, _, _, _, _, _, rfl, lk F0, lk F1, lk F2, lk F3, lk F4, lk F5, lk F6, lk F7, lk F8, lk F9, fun _ => rfl, lk F11, lk F12, lk F13, lk F14, lk F15, F16⟩
    · simp only [List.getElem?_toArray, List.getElem?_cons_zero, List.getElem?_cons_succ, Option.some.injEq] at ho
      subst ho
      obtain rfl := F7 (hd ⟨7, .guard⟩ (by simp) rfl)
      refine wpOp_step rfl (fun K hK => ?_)
      go_simp
      refine hK _ _ ?_
      exact ⟨_, _, _, _, _, _, _, _, _, _, _, _, _, _, _, _, rfl, lk F0, lk F1, lk F2, lk F3, lk F4, lk F5, lk F6, lk F7, lk F8, lk F9, lk F10, fun _ => rfl, lk F12, lk F13, lk F14, lk F15, F16⟩
    · simp only [List.getElem?_toArray, List.getElem?_cons_zero, List.getElem?_cons_succ, Option.some.injEq] at ho
      subst ho
      obtain rfl := F7 (hd ⟨7, .guard⟩ (by simp) rfl)
      refine wpOp_step rfl (fun K hK => ?_)
      go_simp
      refine hK _ _ ?_
      exact ⟨_, _, _, _, _, _, _, _, _, _, _, _, _, _, _, _, rfl, lk F0, lk F1, lk F2, lk F3, lk F4, lk F5, lk F6, lk F7, lk F8, lk F9, lk F10, lk F11, fun _ => rfl, lk F13, lk F14, lk F15, F16⟩
    · simp only [List.getElem?_toArray, List.getElem?_cons_zero, List.getElem?_cons_succ, Option.some.injEq] at ho
      subst ho
      obtain rfl := F7 (hd ⟨7, .guard⟩ (by simp) rfl)
      refine wpOp_step rfl (fun K hK => ?_)
      go_simp
      refine hK _ _ ?_
      exact ⟨_, _, _, _, _, _, _, _, _, _, _, _, _, _, _, _, rfl, lk F0, lk F1, lk F2, lk F3, lk F4, lk F5, lk F6, lk F7, lk F8, lk F9, lk F10, lk F11, lk F12, fun _ => rfl, lk F14, lk F15, F16⟩
    · simp only [List.getElem?_toArray, List.getElem?_cons_zero, List.getElem?_cons_succ, Option.some.injEq] at ho
      subst ho
      obtain rfl := F2 (hd ⟨2, .guard⟩ (by simp) rfl)
      refine wpOp_step rfl (fun K hK => ?_)
      go_simp
      refine hK _ _ ?_
      exact ⟨_, _, _, _, _, _, _, _, _, _, _, _, _, _, _, _, rfl, lk F0, lk F1, lk F2, lk F3, lk F4, lk F5, lk F6, lk F7, lk F8, lk F9, lk F10, lk F11, lk F12, lk F13, fun _ => rfl, lk F15, F16⟩
    · simp only [List.getElem?_toArray, List.getElem?_cons_zero, List.getElem?_cons_succ, Option.some.injEq] at ho
      subst ho
      obtain rfl := F2 (hd ⟨2, .data⟩ (by simp) rfl)
      refine wpOp_step rfl (fun K hK => ?_)
      go_simp
      refine hK _ _ ?_
      exact ⟨_, _, _, _, _, _, _, _, _, _, _, _, _, _, _, _, rfl, lk F0, lk F1, lk F2, lk F3, lk F4, lk F5, lk F6, lk F7, lk F8, lk F9, lk F10, lk F11, lk F12, lk F13, lk F14, fun _ => rfl, F16⟩
  · intro listed A w hall hI
    unfold V18I at hI
    obtain ⟨s96, hI⟩ := hI
    obtain ⟨s97, hI⟩ := hI
    obtain ⟨s98, hI⟩ := hI
    obtain ⟨s99, hI⟩ := hI
    obtain ⟨s100, hI⟩ := hI
    obtain ⟨s101, hI⟩ := hI
    obtain ⟨s102, hI⟩ := hI
    obtain ⟨s103, hI⟩ := hI
    obtain ⟨s104, hI⟩ := hI
    obtain ⟨s105, hI⟩ := hI
    obtain ⟨s106, hI⟩ := hI
    obtain ⟨s107, hI⟩ := hI
    obtain ⟨s108, hI⟩ := hI
    obtain ⟨s109, hI⟩ := hI
    obtain ⟨s110, hI⟩ := hI
    obtain ⟨s111, hI⟩ := hI
    obtain ⟨rfl, hI⟩ := hI
    obtain ⟨F0, hI⟩ := hI
    obtain ⟨F1, hI⟩ := hI
    obtain ⟨F2, hI⟩ := hI
    obtain ⟨F3, hI⟩ := hI
    obtain ⟨F4, hI⟩ := hI
    obtain ⟨F5, hI⟩ := hI
    obtain ⟨F6, hI⟩ := hI
    obtain ⟨F7, hI⟩ := hI
    obtain ⟨F8, hI⟩ := hI
    obtain ⟨F9, hI⟩ := hI
    obtain ⟨F10, hI⟩ := hI
    obtain ⟨F11, hI⟩ := hI
    obtain ⟨F12, hI⟩ := hI
    obtain ⟨F13, hI⟩ := hI
    obtain ⟨F14, hI⟩ := hI
    obtain ⟨F15, hI⟩ := hI
    have F16 := hI; clear hI
    obtain rfl := F0 (hall 0 (by decide))
    obtain rfl := F1 (hall 1 (by decide))
    obtain rfl := F2 (hall 2 (by decide))
    obtain rfl := F3 (hall 3 (by decide))
    obtain rfl := F4 (hall 4 (by decide))
    obtain rfl := F5 (hall 5 (by decide))
    obtain rfl := F6 (hall 6 (by decide))
    obtain rfl := F7 (hall 7 (by decide))
    obtain rfl := F8 (hall 8 (by decide))
    obtain rfl := F9 (hall 9 (by decide))
    obtain rfl := F10 (hall 10 (by decide))
    obtain rfl := F11 (hall 11 (by decide))
    obtain rfl := F12 (hall 12 (by decide))
    obtain rfl := F13 (hall 13 (by decide))
    obtain rfl := F14 (hall 14 (by decide))
    obtain rfl := F15 (hall 15 (by decide))
    have HB := F16
    exact hQ _ trivial HB
end Go.Proofs.YtolkfhiominjbaaGreatDoor
