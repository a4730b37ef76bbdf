/- The statement DecRounds: the three whole numbers. No condition beyond what the theorems state. -/
import Derived.Test.YtmggffhecopgiaaDoorRoundsEnd
namespace Go.Proofs
open Go.Shelf Go.RowKit Go.Proofs.Wide

def RaI (w0 : World) (n k q c r : Int) (c0 c1 c3 c4 c8 c9 c10 c11 c12 c13 c14 c15 c16 c17 c18 c19 c20 c21 c22 c23 c24 c25 c26 c27 c28 c29 c30 c37 c38 c39 c40 c41 c42 c43 c44 c45 c46 c47 c48 c49 c50 c51 c52 c53 c54 c55 c56 c57 c58 c59 c60 c61 c62 c63 c64 c65 c66 c67 c68 c69 c70 c71 c72 c73 c74 c75 c76 c77 c78 c79 c80 c81 c82 c83 c84 c85 c86 c87 c88 c89 c90 c91 c92 c93 c94 c95 c96 c97 c98 c99 c100 c101 c102 c103 c104 c105 c106 c107 c108 c109 c110 c111 c112 c113 c114 c115 c116 c117 c118 c119 c120 c121 c122 c123 c124 c125 c126 c127 c128 c129 c130 c131 c132 c133 c134 c135 c136 c137 c138 c139 c140 c141 c142 c143 c144 c145 c146 c147 c148 c149 c150 c151 c152 c153 c154 c155 c156 c157 c158 c159 c160 c161 c162 c163 c164 : Value) (listed : Array Bool) (A : Act) (w : World) : Prop := ∃ (s5 s6 s7 s31 s32 s33 s34 s35 s36 : Value) (g5 g6 g7 : Nat), A = { tmps := #[c0, c1, .pointer (some ⟨w0.heap.size, 0, none⟩), c3, c4, s5, s6, s7, c8, c9, c10, c11, c12, c13, c14, c15, c16, c17, c18, c19, c20, c21, c22, c23, c24, c25, c26, c27, c28, c29, c30, s31, s32, s33, s34, s35, s36, c37, c38, c39, c40, c41, c42, c43, c44, c45, c46, c47, c48, c49, c50, c51, c52, c53, c54, c55, c56, c57, c58, c59, c60, c61, c62, c63, c64, c65, c66, c67, c68, c69, c70, c71, c72, c73, c74, c75, c76, c77, c78, c79, c80, c81, c82, c83, c84, c85, c86, c87, c88, c89, c90, c91, c92, c93, c94, c95, c96, c97, c98, c99, c100, c101, c102, c103, c104, c105, c106, c107, c108, c109, c110, c111, c112, c113, c114, c115, c116, c117, c118, c119, c120, c121, c122, c123, c124, c125, c126, c127, c128, c129, c130, c131, c132, c133, c134, c135, c136, c137, c138, c139, c140, c141, c142, c143, c144, c145, c146, c147, c148, c149, c150, c151, c152, c153, c154, c155, c156, c157, c158, c159, c160, c161, c162, c163, c164], defers := [] } ∧
  (listed.getD 0 false = true → s31 = .agg #[.int .i64 (n), .int .i64 (k)]) ∧
  (listed.getD 1 false = true → s32 = .agg #[.int .i64 (q), .int .i64 (0)]) ∧
  (listed.getD 2 false = true → s33 = .agg #[.int .i64 (n), .int .i64 (k)]) ∧
  (listed.getD 3 false = true → s34 = .agg #[.int .i64 (c), .int .i64 (0)]) ∧
  (listed.getD 4 false = true → s35 = .agg #[.int .i64 (n), .int .i64 (k)]) ∧
  (listed.getD 5 false = true → s36 = .agg #[.int .i64 (r), .int .i64 (0)]) ∧
  (listed.getD 6 false = true → s5 = .pointer (some ⟨g5, 0, none⟩) ∧ w0.heap.size < g5 ∧ ∃ u v, Own w g5 u v) ∧
  (listed.getD 7 false = true → s6 = .pointer (some ⟨g6, 0, none⟩) ∧ w0.heap.size < g6 ∧ ∃ u v, Own w g6 u v) ∧
  (listed.getD 8 false = true → s7 = .pointer (some ⟨g7, 0, none⟩) ∧ w0.heap.size < g7 ∧ ∃ u v, Own w g7 u v) ∧
  (listed.getD 9 false = true → listed.getD 6 false = true ∧ Own w g5 (.int .i64 q) (.int .i64 0)) ∧
  (listed.getD 10 false = true → listed.getD 7 false = true ∧ Own w g6 (.int .i64 c) (.int .i64 0)) ∧
  (listed.getD 11 false = true → listed.getD 8 false = true ∧ Own w g7 (.int .i64 r) (.int .i64 0)) ∧
  (listed.getD 6 false = true → listed.getD 7 false = true → g5 ≠ g6) ∧
  (listed.getD 6 false = true → listed.getD 8 false = true → g5 ≠ g7) ∧
  (listed.getD 7 false = true → listed.getD 8 false = true → g6 ≠ g7) ∧
  Below w0.heap.size w0 w ∧
  Own w (w0.heap.size) (.int .i64 n) (.int .i64 k)

set_option maxRecDepth 100000 in
set_option maxHeartbeats 16000000 in
theorem region3 (n k q c r : Int) (x5 x6 x7 x31 x32 x33 x34 x35 x36 : Value) (c0 c1 c3 c4 c8 c9 c10 c11 c12 c13 c14 c15 c16 c17 c18 c19 c20 c21 c22 c23 c24 c25 c26 c27 c28 c29 c30 c37 c38 c39 c40 c41 c42 c43 c44 c45 c46 c47 c48 c49 c50 c51 c52 c53 c54 c55 c56 c57 c58 c59 c60 c61 c62 c63 c64 c65 c66 c67 c68 c69 c70 c71 c72 c73 c74 c75 c76 c77 c78 c79 c80 c81 c82 c83 c84 c85 c86 c87 c88 c89 c90 c91 c92 c93 c94 c95 c96 c97 c98 c99 c100 c101 c102 c103 c104 c105 c106 c107 c108 c109 c110 c111 c112 c113 c114 c115 c116 c117 c118 c119 c120 c121 c122 c123 c124 c125 c126 c127 c128 c129 c130 c131 c132 c133 c134 c135 c136 c137 c138 c139 c140 c141 c142 c143 c144 c145 c146 c147 c148 c149 c150 c151 c152 c153 c154 c155 c156 c157 c158 c159 c160 c161 c162 c163 c164 : Value) (w0 W : World) (Q : Exit → Act → World → Prop)
    (hb0 : Below w0.heap.size w0 W) (A0 : Own W w0.heap.size (.int .i64 n) (.int .i64 k))
    (Hf : Hid (Gives 27 #[.agg #[.int .i64 (n), .int .i64 (k)]] (.agg #[.int .i64 (q), .int .i64 (0)]))) (Hc : Hid (Gives 28 #[.agg #[.int .i64 (n), .int .i64 (k)]] (.agg #[.int .i64 (c), .int .i64 (0)]))) (Hr : Hid (Gives 29 #[.agg #[.int .i64 (n), .int .i64 (k)]] (.agg #[.int .i64 (r), .int .i64 (0)])))
    (hQ : ∀ w g5 g6 g7, Own w w0.heap.size (.int .i64 n) (.int .i64 k) → Own w g5 (.int .i64 q) (.int .i64 0) → Own w g6 (.int .i64 c) (.int .i64 0) → Own w g7 (.int .i64 r) (.int .i64 0) → Below w0.heap.size w0 w → Q .normal { tmps := #[c0, c1, .pointer (some ⟨w0.heap.size, 0, none⟩), c3, c4, .pointer (some ⟨g5, 0, none⟩), .pointer (some ⟨g6, 0, none⟩), .pointer (some ⟨g7, 0, none⟩), c8, c9, c10, c11, c12, c13, c14, c15, c16, c17, c18, c19, c20, c21, c22, c23, c24, c25, c26, c27, c28, c29, c30, .agg #[.int .i64 (n), .int .i64 (k)], .agg #[.int .i64 (q), .int .i64 (0)], .agg #[.int .i64 (n), .int .i64 (k)], .agg #[.int .i64 (c), .int .i64 (0)], .agg #[.int .i64 (n), .int .i64 (k)], .agg #[.int .i64 (r), .int .i64 (0)], c37, c38, c39, c40, c41, c42, c43, c44, c45, c46, c47, c48, c49, c50, c51, c52, c53, c54, c55, c56, c57, c58, c59, c60, c61, c62, c63, c64, c65, c66, c67, c68, c69, c70, c71, c72, c73, c74, c75, c76, c77, c78, c79, c80, c81, c82, c83, c84, c85, c86, c87, c88, c89, c90, c91, c92, c93, c94, c95, c96, c97, c98, c99, c100, c101, c102, c103, c104, c105, c106, c107, c108, c109, c110, c111, c112, c113, c114, c115, c116, c117, c118, c119, c120, c121, c122, c123, c124, c125, c126, c127, c128, c129, c130, c131, c132, c133, c134, c135, c136, c137, c138, c139, c140, c141, c142, c143, c144, c145, c146, c147, c148, c149, c150, c151, c152, c153, c154, c155, c156, c157, c158, c159, c160, c161, c162, c163, c164], defers := [] } w) :
    Code.wp Tryd.prog ((Tryd.f6.body.bind (regionOf 3)).getD .skip) Q { tmps := #[c0, c1, .pointer (some ⟨w0.heap.size, 0, none⟩), c3, c4, x5, x6, x7, c8, c9, c10, c11, c12, c13, c14, c15, c16, c17, c18, c19, c20, c21, c22, c23, c24, c25, c26, c27, c28, c29, c30, x31, x32, x33, x34, x35, x36, c37, c38, c39, c40, c41, c42, c43, c44, c45, c46, c47, c48, c49, c50, c51, c52, c53, c54, c55, c56, c57, c58, c59, c60, c61, c62, c63, c64, c65, c66, c67, c68, c69, c70, c71, c72, c73, c74, c75, c76, c77, c78, c79, c80, c81, c82, c83, c84, c85, c86, c87, c88, c89, c90, c91, c92, c93, c94, c95, c96, c97, c98, c99, c100, c101, c102, c103, c104, c105, c106, c107, c108, c109, c110, c111, c112, c113, c114, c115, c116, c117, c118, c119, c120, c121, c122, c123, c124, c125, c126, c127, c128, c129, c130, c131, c132, c133, c134, c135, c136, c137, c138, c139, c140, c141, c142, c143, c144, c145, c146, c147, c148, c149, c150, c151, c152, c153, c154, c155, c156, c157, c158, c159, c160, c161, c162, c163, c164], defers := [] } W := by
  conv => arg 2; whnf
  refine wp_region_inv (by kernel_rfl) (by kernel_rfl) (RaI w0 n k q c r c0 c1 c3 c4 c8 c9 c10 c11 c12 c13 c14 c15 c16 c17 c18 c19 c20 c21 c22 c23 c24 c25 c26 c27 c28 c29 c30 c37 c38 c39 c40 c41 c42 c43 c44 c45 c46 c47 c48 c49 c50 c51 c52 c53 c54 c55 c56 c57 c58 c59 c60 c61 c62 c63 c64 c65 c66 c67 c68 c69 c70 c71 c72 c73 c74 c75 c76 c77 c78 c79 c80 c81 c82 c83 c84 c85 c86 c87 c88 c89 c90 c91 c92 c93 c94 c95 c96 c97 c98 c99 c100 c101 c102 c103 c104 c105 c106 c107 c108 c109 c110 c111 c112 c113 c114 c115 c116 c117 c118 c119 c120 c121 c122 c123 c124 c125 c126 c127 c128 c129 c130 c131 c132 c133 c134 c135 c136 c137 c138 c139 c140 c141 c142 c143 c144 c145 c146 c147 c148 c149 c150 c151 c152 c153 c154 c155 c156 c157 c158 c159 c160 c161 c162 c163 c164) ?_ ?_ ?_
  · exact ⟨_, _, _, _, _, _, _, _, _, 0, 0, 0, rfl, fun h => absurd h l0, fun h => absurd h l0, fun h => absurd h l0, fun h => absurd h l0, fun h => absurd h l0, fun h => absurd h l0, fun h => absurd h l0, fun h => absurd h l0, fun h => absurd h l0, fun h => absurd h l0, fun h => absurd h l0, fun h => absurd h l0, fun h => absurd h l0, fun h => absurd h l0, fun h => absurd h l0, bdr hb0, A0.drew⟩
  · intro i o listed A w hi ho hd hn hI
    obtain ⟨s5, s6, s7, s31, s32, s33, s34, s35, s36, g5, g6, g7, rfl, F0, F1, F2, F3, F4, F5, F6, F7, F8, F9, F10, F11, F12, F13, F14, F15, F16⟩ := hI
    have hi' : i < 12 := hi
    clear hi
    rcases (by omega : i = 0 ∨ i = 1 ∨ i = 2 ∨ i = 3 ∨ i = 4 ∨ i = 5 ∨ i = 6 ∨ i = 7 ∨ i = 8 ∨ i = 9 ∨ i = 10 ∨ i = 11) with rfl | rfl | rfl | rfl | rfl | rfl | rfl | rfl | rfl | rfl | rfl | rfl
    · simp only [List.getElem?_toArray, List.getElem?_cons_zero, Option.some.injEq] at ho
      subst ho
      have O'0 := F16; obtain ⟨_, _, _, _⟩ := O'0
      refine wpOp_step rfl (fun K hK => ?_)
      go_simp
      refine hK _ _ ?_
      exact ⟨_, _, _, _, _, _, _, _, _, g5, g6, g7, rfl, fun _ => rfl, fun h => F1 (ls (by decide) h), fun h => F2 (ls (by decide) h), fun h => F3 (ls (by decide) h), fun h => F4 (ls (by decide) h), fun h => F5 (ls (by decide) h), fun h => F6 (ls (by decide) h), fun h => F7 (ls (by decide) h), fun h => F8 (ls (by decide) h), fun h => let ⟨x, c⟩ := F9 (ls (by decide) h); ⟨la x, c⟩, fun h => let ⟨x, c⟩ := F10 (ls (by decide) h); ⟨la x, c⟩, fun h => let ⟨x, c⟩ := F11 (ls (by decide) h); ⟨la x, c⟩, fun h h' => F12 (ls (by decide) h) (ls (by decide) h'), fun h h' => F13 (ls (by decide) h) (ls (by decide) h'), fun h h' => F14 (ls (by decide) h) (ls (by decide) h'), F15, F16⟩
    · simp only [List.getElem?_toArray, List.getElem?_cons_zero, List.getElem?_cons_succ, Option.some.injEq] at ho
      subst ho
      obtain rfl := F0 (hd ⟨0, .data⟩ (by simp) rfl)
      refine wpOp_step rfl (fun K hK => ?_)
      go_simp
      go_at_call 27; refine (Hf.out.call _).mono ?_; rintro e w' ⟨rfl, hb⟩
      refine hK _ _ ?_
      exact ⟨_, _, _, _, _, _, _, _, _, g5, g6, g7, rfl, fun h => F0 (ls (by decide) h), fun _ => rfl, fun h => F2 (ls (by decide) h), fun h => F3 (ls (by decide) h), fun h => F4 (ls (by decide) h), fun h => F5 (ls (by decide) h), fun h => let ⟨a, b, u, v, c⟩ := F6 (ls (by decide) h); ⟨a, b, u, v, (c).call hb⟩, fun h => let ⟨a, b, u, v, c⟩ := F7 (ls (by decide) h); ⟨a, b, u, v, (c).call hb⟩, fun h => let ⟨a, b, u, v, c⟩ := F8 (ls (by decide) h); ⟨a, b, u, v, (c).call hb⟩, fun h => let ⟨x, c⟩ := F9 (ls (by decide) h); ⟨la x, (c).call hb⟩, fun h => let ⟨x, c⟩ := F10 (ls (by decide) h); ⟨la x, (c).call hb⟩, fun h => let ⟨x, c⟩ := F11 (ls (by decide) h); ⟨la x, (c).call hb⟩, fun h h' => F12 (ls (by decide) h) (ls (by decide) h'), fun h h' => F13 (ls (by decide) h) (ls (by decide) h'), fun h h' => F14 (ls (by decide) h) (ls (by decide) h'), bt F15 hb, (F16).call hb⟩
    · simp only [List.getElem?_toArray, List.getElem?_cons_zero, List.getElem?_cons_succ, Option.some.injEq] at ho
      subst ho
      have O'0 := F16; obtain ⟨_, _, _, _⟩ := O'0
      refine wpOp_step rfl (fun K hK => ?_)
      go_simp
      refine hK _ _ ?_
      exact ⟨_, _, _, _, _, _, _, _, _, g5, g6, g7, rfl, fun h => F0 (ls (by decide) h), fun h => F1 (ls (by decide) h), fun _ => rfl, fun h => F3 (ls (by decide) h), fun h => F4 (ls (by decide) h), fun h => F5 (ls (by decide) h), fun h => F6 (ls (by decide) h), fun h => F7 (ls (by decide) h), fun h => F8 (ls (by decide) h), fun h => let ⟨x, c⟩ := F9 (ls (by decide) h); ⟨la x, c⟩, fun h => let ⟨x, c⟩ := F10 (ls (by decide) h); ⟨la x, c⟩, fun h => let ⟨x, c⟩ := F11 (ls (by decide) h); ⟨la x, c⟩, fun h h' => F12 (ls (by decide) h) (ls (by decide) h'), fun h h' => F13 (ls (by decide) h) (ls (by decide) h'), fun h h' => F14 (ls (by decide) h) (ls (by decide) h'), F15, F16⟩
    · simp only [List.getElem?_toArray, List.getElem?_cons_zero, List.getElem?_cons_succ, Option.some.injEq] at ho
      subst ho
      obtain rfl := F2 (hd ⟨2, .data⟩ (by simp) rfl)
      refine wpOp_step rfl (fun K hK => ?_)
      go_simp
      go_at_call 28; refine (Hc.out.call _).mono ?_; rintro e w' ⟨rfl, hb⟩
      refine hK _ _ ?_
      exact ⟨_, _, _, _, _, _, _, _, _, g5, g6, g7, rfl, fun h => F0 (ls (by decide) h), fun h => F1 (ls (by decide) h), fun h => F2 (ls (by decide) h), fun _ => rfl, fun h => F4 (ls (by decide) h), fun h => F5 (ls (by decide) h), fun h => let ⟨a, b, u, v, c⟩ := F6 (ls (by decide) h); ⟨a, b, u, v, (c).call hb⟩, fun h => let ⟨a, b, u, v, c⟩ := F7 (ls (by decide) h); ⟨a, b, u, v, (c).call hb⟩, fun h => let ⟨a, b, u, v, c⟩ := F8 (ls (by decide) h); ⟨a, b, u, v, (c).call hb⟩, fun h => let ⟨x, c⟩ := F9 (ls (by decide) h); ⟨la x, (c).call hb⟩, fun h => let ⟨x, c⟩ := F10 (ls (by decide) h); ⟨la x, (c).call hb⟩, fun h => let ⟨x, c⟩ := F11 (ls (by decide) h); ⟨la x, (c).call hb⟩, fun h h' => F12 (ls (by decide) h) (ls (by decide) h'), fun h h' => F13 (ls (by decide) h) (ls (by decide) h'), fun h h' => F14 (ls (by decide) h) (ls (by decide) h'), bt F15 hb, (F16).call hb⟩
    · simp only [List.getElem?_toArray, List.getElem?_cons_zero, List.getElem?_cons_succ, Option.some.injEq] at ho
      subst ho
      have O'0 := F16; obtain ⟨_, _, _, _⟩ := O'0
      refine wpOp_step rfl (fun K hK => ?_)
      go_simp
      refine hK _ _ ?_
      exact ⟨_, _, _, _, _, _, _, _, _, g5, g6, g7, rfl, fun h => F0 (ls (by decide) h), fun h => F1 (ls (by decide) h), fun h => F2 (ls (by decide) h), fun h => F3 (ls (by decide) h), fun _ => rfl, fun h => F5 (ls (by decide) h), fun h => F6 (ls (by decide) h), fun h => F7 (ls (by decide) h), fun h => F8 (ls (by decide) h), fun h => let ⟨x, c⟩ := F9 (ls (by decide) h); ⟨la x, c⟩, fun h => let ⟨x, c⟩ := F10 (ls (by decide) h); ⟨la x, c⟩, fun h => let ⟨x, c⟩ := F11 (ls (by decide) h); ⟨la x, c⟩, fun h h' => F12 (ls (by decide) h) (ls (by decide) h'), fun h h' => F13 (ls (by decide) h) (ls (by decide) h'), fun h h' => F14 (ls (by decide) h) (ls (by decide) h'), F15, F16⟩
    · simp only [List.getElem?_toArray, List.getElem?_cons_zero, List.getElem?_cons_succ, Option.some.injEq] at ho
      subst ho
      obtain rfl := F4 (hd ⟨4, .data⟩ (by simp) rfl)
      refine wpOp_step rfl (fun K hK => ?_)
      go_simp
      go_at_call 29; refine (Hr.out.call _).mono ?_; rintro e w' ⟨rfl, hb⟩
      refine hK _ _ ?_
      exact ⟨_, _, _, _, _, _, _, _, _, g5, g6, g7, rfl, fun h => F0 (ls (by decide) h), fun h => F1 (ls (by decide) h), fun h => F2 (ls (by decide) h), fun h => F3 (ls (by decide) h), fun h => F4 (ls (by decide) h), fun _ => rfl, fun h => let ⟨a, b, u, v, c⟩ := F6 (ls (by decide) h); ⟨a, b, u, v, (c).call hb⟩, fun h => let ⟨a, b, u, v, c⟩ := F7 (ls (by decide) h); ⟨a, b, u, v, (c).call hb⟩, fun h => let ⟨a, b, u, v, c⟩ := F8 (ls (by decide) h); ⟨a, b, u, v, (c).call hb⟩, fun h => let ⟨x, c⟩ := F9 (ls (by decide) h); ⟨la x, (c).call hb⟩, fun h => let ⟨x, c⟩ := F10 (ls (by decide) h); ⟨la x, (c).call hb⟩, fun h => let ⟨x, c⟩ := F11 (ls (by decide) h); ⟨la x, (c).call hb⟩, fun h h' => F12 (ls (by decide) h) (ls (by decide) h'), fun h h' => F13 (ls (by decide) h) (ls (by decide) h'), fun h h' => F14 (ls (by decide) h) (ls (by decide) h'), bt F15 hb, (F16).call hb⟩
    · simp only [List.getElem?_toArray, List.getElem?_cons_zero, List.getElem?_cons_succ, Option.some.injEq] at ho
      subst ho
      refine wpOp_step rfl (fun K hK => ?_)
      go_simp
      refine hK _ _ ?_
      exact ⟨_, _, _, _, _, _, _, _, _, w.heap.size, g6, g7, rfl, fun h => F0 (ls (by decide) h), fun h => F1 (ls (by decide) h), fun h => F2 (ls (by decide) h), fun h => F3 (ls (by decide) h), fun h => F4 (ls (by decide) h), fun h => F5 (ls (by decide) h), fun _ => ⟨rfl, (F16).lt, _, _, Own.new _ _ _ _⟩, fun h => let ⟨a, b, u, v, c⟩ := F7 (ls (by decide) h); ⟨a, b, u, v, (c).alloc _⟩, fun h => let ⟨a, b, u, v, c⟩ := F8 (ls (by decide) h); ⟨a, b, u, v, (c).alloc _⟩, fun h => lc hn (F9 (ls (by decide) h)).1, fun h => let ⟨x, c⟩ := F10 (ls (by decide) h); ⟨la x, (c).alloc _⟩, fun h => let ⟨x, c⟩ := F11 (ls (by decide) h); ⟨la x, (c).alloc _⟩, fun _ h => let ⟨_, _, _, _, c⟩ := F7 (ls (by decide) h); Ne.symm (Nat.ne_of_lt c.lt), fun _ h => let ⟨_, _, _, _, c⟩ := F8 (ls (by decide) h); Ne.symm (Nat.ne_of_lt c.lt), fun h h' => F14 (ls (by decide) h) (ls (by decide) h'), ba F15, (F16).alloc _⟩
    · simp only [List.getElem?_toArray, List.getElem?_cons_zero, List.getElem?_cons_succ, Option.some.injEq] at ho
      subst ho
      refine wpOp_step rfl (fun K hK => ?_)
      go_simp
      refine hK _ _ ?_
      exact ⟨_, _, _, _, _, _, _, _, _, g5, w.heap.size, g7, rfl, fun h => F0 (ls (by decide) h), fun h => F1 (ls (by decide) h), fun h => F2 (ls (by decide) h), fun h => F3 (ls (by decide) h), fun h => F4 (ls (by decide) h), fun h => F5 (ls (by decide) h), fun h => let ⟨a, b, u, v, c⟩ := F6 (ls (by decide) h); ⟨a, b, u, v, (c).alloc _⟩, fun _ => ⟨rfl, (F16).lt, _, _, Own.new _ _ _ _⟩, fun h => let ⟨a, b, u, v, c⟩ := F8 (ls (by decide) h); ⟨a, b, u, v, (c).alloc _⟩, fun h => let ⟨x, c⟩ := F9 (ls (by decide) h); ⟨la x, (c).alloc _⟩, fun h => lc hn (F10 (ls (by decide) h)).1, fun h => let ⟨x, c⟩ := F11 (ls (by decide) h); ⟨la x, (c).alloc _⟩, fun h _ => let ⟨_, _, _, _, c⟩ := F6 (ls (by decide) h); Nat.ne_of_lt c.lt, fun h h' => F13 (ls (by decide) h) (ls (by decide) h'), fun _ h => let ⟨_, _, _, _, c⟩ := F8 (ls (by decide) h); Ne.symm (Nat.ne_of_lt c.lt), ba F15, (F16).alloc _⟩
    · simp only [List.getElem?_toArray, List.getElem?_cons_zero, List.getElem?_cons_succ, Option.some.injEq] at ho
      subst ho
      refine wpOp_step rfl (fun K hK => ?_)
      go_simp
      refine hK _ _ ?_
      exact ⟨_, _, _, _, _, _, _, _, _, g5, g6, w.heap.size, rfl, fun h => F0 (ls (by decide) h), fun h => F1 (ls (by decide) h), fun h => F2 (ls (by decide) h), fun h => F3 (ls (by decide) h), fun h => F4 (ls (by decide) h), fun h => F5 (ls (by decide) h), fun h => let ⟨a, b, u, v, c⟩ := F6 (ls (by decide) h); ⟨a, b, u, v, (c).alloc _⟩, fun h => let ⟨a, b, u, v, c⟩ := F7 (ls (by decide) h); ⟨a, b, u, v, (c).alloc _⟩, fun _ => ⟨rfl, (F16).lt, _, _, Own.new _ _ _ _⟩, fun h => let ⟨x, c⟩ := F9 (ls (by decide) h); ⟨la x, (c).alloc _⟩, fun h => let ⟨x, c⟩ := F10 (ls (by decide) h); ⟨la x, (c).alloc _⟩, fun h => lc hn (F11 (ls (by decide) h)).1, fun h h' => F12 (ls (by decide) h) (ls (by decide) h'), fun h _ => let ⟨_, _, _, _, c⟩ := F6 (ls (by decide) h); Nat.ne_of_lt c.lt, fun h _ => let ⟨_, _, _, _, c⟩ := F7 (ls (by decide) h); Nat.ne_of_lt c.lt, ba F15, (F16).alloc _⟩
    · simp only [List.getElem?_toArray, List.getElem?_cons_zero, List.getElem?_cons_succ, Option.some.injEq] at ho
      subst ho
      obtain ⟨rfl, A6, u6, v6, O6⟩ := F6 (hd ⟨6, .data⟩ (by simp) rfl)
      have O6' := O6; obtain ⟨_, _, _, _⟩ := O6'
      obtain rfl := F1 (hd ⟨1, .data⟩ (by simp) rfl)
      refine wpOp_step rfl (fun K hK => ?_)
      go_simp
      refine hK _ _ ?_
      exact ⟨_, _, _, _, _, _, _, _, _, g5, g6, g7, rfl, fun h => F0 (ls (by decide) h), fun h => F1 (ls (by decide) h), fun h => F2 (ls (by decide) h), fun h => F3 (ls (by decide) h), fun h => F4 (ls (by decide) h), fun h => F5 (ls (by decide) h), fun _ => ⟨rfl, A6, _, _, O6.store _ _⟩, fun h => let ⟨a, b, u, v, c⟩ := F7 (ls (by decide) h); ⟨a, b, u, v, (c.set_ (F12 (hd ⟨6, .data⟩ (by simp) rfl) (hd ⟨7, .phase⟩ (by simp) rfl))).set_ (F12 (hd ⟨6, .data⟩ (by simp) rfl) (hd ⟨7, .phase⟩ (by simp) rfl))⟩, fun h => let ⟨a, b, u, v, c⟩ := F8 (ls (by decide) h); ⟨a, b, u, v, (c.set_ (F13 (hd ⟨6, .data⟩ (by simp) rfl) (hd ⟨8, .phase⟩ (by simp) rfl))).set_ (F13 (hd ⟨6, .data⟩ (by simp) rfl) (hd ⟨8, .phase⟩ (by simp) rfl))⟩, fun _ => ⟨la (hd ⟨6, .data⟩ (by simp) rfl), O6.store _ _⟩, fun h => let ⟨x, c⟩ := F10 (ls (by decide) h); ⟨la x, (c.set_ (F12 (hd ⟨6, .data⟩ (by simp) rfl) (hd ⟨7, .phase⟩ (by simp) rfl))).set_ (F12 (hd ⟨6, .data⟩ (by simp) rfl) (hd ⟨7, .phase⟩ (by simp) rfl))⟩, fun h => let ⟨x, c⟩ := F11 (ls (by decide) h); ⟨la x, (c.set_ (F13 (hd ⟨6, .data⟩ (by simp) rfl) (hd ⟨8, .phase⟩ (by simp) rfl))).set_ (F13 (hd ⟨6, .data⟩ (by simp) rfl) (hd ⟨8, .phase⟩ (by simp) rfl))⟩, fun h h' => F12 (ls (by decide) h) (ls (by decide) h'), fun h h' => F13 (ls (by decide) h) (ls (by decide) h'), fun h h' => F14 (ls (by decide) h) (ls (by decide) h'), bs (bs F15 (by first | (simp; done) | (simp; omega))) (by first | (simp; done) | (simp; omega)), ((F16).set_ (by first | (simp; done) | (simp; omega))).set_ (by first | (simp; done) | (simp; omega))⟩
    · simp only [List.getElem?_toArray, List.getElem?_cons_zero, List.getElem?_cons_succ, Option.some.injEq] at ho
      subst ho
      obtain ⟨rfl, A7, u7, v7, O7⟩ := F7 (hd ⟨7, .data⟩ (by simp) rfl)
      have O7' := O7; obtain ⟨_, _, _, _⟩ := O7'
      obtain rfl := F3 (hd ⟨3, .data⟩ (by simp) rfl)
      refine wpOp_step rfl (fun K hK => ?_)
      go_simp
      refine hK _ _ ?_
      exact ⟨_, _, _, _, _, _, _, _, _, g5, g6, g7, rfl, fun h => F0 (ls (by decide) h), fun h => F1 (ls (by decide) h), fun h => F2 (ls (by decide) h), fun h => F3 (ls (by decide) h), fun h => F4 (ls (by decide) h), fun h => F5 (ls (by decide) h), fun h => let ⟨a, b, u, v, c⟩ := F6 (ls (by decide) h); ⟨a, b, u, v, (c.set_ (Ne.symm (F12 (hd ⟨6, .phase⟩ (by simp) rfl) (hd ⟨7, .data⟩ (by simp) rfl)))).set_ (Ne.symm (F12 (hd ⟨6, .phase⟩ (by simp) rfl) (hd ⟨7, .data⟩ (by simp) rfl)))⟩, fun _ => ⟨rfl, A7, _, _, O7.store _ _⟩, fun h => let ⟨a, b, u, v, c⟩ := F8 (ls (by decide) h); ⟨a, b, u, v, (c.set_ (F14 (hd ⟨7, .data⟩ (by simp) rfl) (hd ⟨8, .phase⟩ (by simp) rfl))).set_ (F14 (hd ⟨7, .data⟩ (by simp) rfl) (hd ⟨8, .phase⟩ (by simp) rfl))⟩, fun h => let ⟨x, c⟩ := F9 (ls (by decide) h); ⟨la x, (c.set_ (Ne.symm (F12 (hd ⟨6, .phase⟩ (by simp) rfl) (hd ⟨7, .data⟩ (by simp) rfl)))).set_ (Ne.symm (F12 (hd ⟨6, .phase⟩ (by simp) rfl) (hd ⟨7, .data⟩ (by simp) rfl)))⟩, fun _ => ⟨la (hd ⟨7, .data⟩ (by simp) rfl), O7.store _ _⟩, fun h => let ⟨x, c⟩ := F11 (ls (by decide) h); ⟨la x, (c.set_ (F14 (hd ⟨7, .data⟩ (by simp) rfl) (hd ⟨8, .phase⟩ (by simp) rfl))).set_ (F14 (hd ⟨7, .data⟩ (by simp) rfl) (hd ⟨8, .phase⟩ (by simp) rfl))⟩, fun h h' => F12 (ls (by decide) h) (ls (by decide) h'), fun h h' => F13 (ls (by decide) h) (ls (by decide) h'), fun h h' => F14 (ls (by decide) h) (ls (by decide) h'), bs (bs F15 (by first | (simp; done) | (simp; omega))) (by first | (simp; done) | (simp; omega)), ((F16).set_ (by first | (simp; done) | (simp; omega))).set_ (by first | (simp; done) | (simp; omega))⟩
    · simp only [List.getElem?_toArray, List.getElem?_cons_zero, List.getElem?_cons_succ, Option.some.injEq] at ho
      subst ho
      obtain ⟨rfl, A8, u8, v8, O8⟩ := F8 (hd ⟨8, .data⟩ (by simp) rfl)
      have O8' := O8; obtain ⟨_, _, _, _⟩ := O8'
      obtain rfl := F5 (hd ⟨5, .data⟩ (by simp) rfl)
      refine wpOp_step rfl (fun K hK => ?_)
      go_simp
      refine hK _ _ ?_
      exact ⟨_, _, _, _, _, _, _, _, _, g5, g6, g7, rfl, fun h => F0 (ls (by decide) h), fun h => F1 (ls (by decide) h), fun h => F2 (ls (by decide) h), fun h => F3 (ls (by decide) h), fun h => F4 (ls (by decide) h), fun h => F5 (ls (by decide) h), fun h => let ⟨a, b, u, v, c⟩ := F6 (ls (by decide) h); ⟨a, b, u, v, (c.set_ (Ne.symm (F13 (hd ⟨6, .phase⟩ (by simp) rfl) (hd ⟨8, .data⟩ (by simp) rfl)))).set_ (Ne.symm (F13 (hd ⟨6, .phase⟩ (by simp) rfl) (hd ⟨8, .data⟩ (by simp) rfl)))⟩, fun h => let ⟨a, b, u, v, c⟩ := F7 (ls (by decide) h); ⟨a, b, u, v, (c.set_ (Ne.symm (F14 (hd ⟨7, .phase⟩ (by simp) rfl) (hd ⟨8, .data⟩ (by simp) rfl)))).set_ (Ne.symm (F14 (hd ⟨7, .phase⟩ (by simp) rfl) (hd ⟨8, .data⟩ (by simp) rfl)))⟩, fun _ => ⟨rfl, A8, _, _, O8.store _ _⟩, fun h => let ⟨x, c⟩ := F9 (ls (by decide) h); ⟨la x, (c.set_ (Ne.symm (F13 (hd ⟨6, .phase⟩ (by simp) rfl) (hd ⟨8, .data⟩ (by simp) rfl)))).set_ (Ne.symm (F13 (hd ⟨6, .phase⟩ (by simp) rfl) (hd ⟨8, .data⟩ (by simp) rfl)))⟩, fun h => let ⟨x, c⟩ := F10 (ls (by decide) h); ⟨la x, (c.set_ (Ne.symm (F14 (hd ⟨7, .phase⟩ (by simp) rfl) (hd ⟨8, .data⟩ (by simp) rfl)))).set_ (Ne.symm (F14 (hd ⟨7, .phase⟩ (by simp) rfl) (hd ⟨8, .data⟩ (by simp) rfl)))⟩, fun _ => ⟨la (hd ⟨8, .data⟩ (by simp) rfl), O8.store _ _⟩, fun h h' => F12 (ls (by decide) h) (ls (by decide) h'), fun h h' => F13 (ls (by decide) h) (ls (by decide) h'), fun h h' => F14 (ls (by decide) h) (ls (by decide) h'), bs (bs F15 (by first | (simp; done) | (simp; omega))) (by first | (simp; done) | (simp; omega)), ((F16).set_ (by first | (simp; done) | (simp; omega))).set_ (by first | (simp; done) | (simp; omega))⟩
  · intro listed A w hall hI
    obtain ⟨s5, s6, s7, s31, s32, s33, s34, s35, s36, g5, g6, g7, rfl, F0, F1, F2, F3, F4, F5, F6, F7, F8, F9, F10, F11, F12, F13, F14, F15, F16⟩ := hI
    obtain rfl := F0 (hall 0 (by decide))
    obtain rfl := F1 (hall 1 (by decide))
    obtain rfl := F2 (hall 2 (by decide))
    obtain rfl := F3 (hall 3 (by decide))
    obtain rfl := F4 (hall 4 (by decide))
    obtain rfl := F5 (hall 5 (by decide))
    obtain ⟨rfl, A6, u6, v6, O6⟩ := F6 (hall 6 (by decide))
    obtain ⟨rfl, A7, u7, v7, O7⟩ := F7 (hall 7 (by decide))
    obtain ⟨rfl, A8, u8, v8, O8⟩ := F8 (hall 8 (by decide))
    have P9 := (F9 (hall 9 (by decide))).2
    have P10 := (F10 (hall 10 (by decide))).2
    have P11 := (F11 (hall 11 (by decide))).2
    have N12 := F12 (hall _ (by decide)) (hall _ (by decide))
    have N13 := F13 (hall _ (by decide)) (hall _ (by decide))
    have N14 := F14 (hall _ (by decide)) (hall _ (by decide))
    have HB := F15
    have B0 := F16
    clear hall F6 F7 F8 F9 F10 F11 F12 F13 F14 F15 F16 F0 F1 F2 F3 F4 F5
    try dsimp only

    exact hQ _ _ _ _ B0 P9 P10 P11 HB
end Go.Proofs
