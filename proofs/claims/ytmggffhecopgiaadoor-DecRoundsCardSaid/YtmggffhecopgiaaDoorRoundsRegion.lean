/- The statement DecRounds: one sum more. No condition beyond what the theorems state. -/
import Derived.Test.YtmggffhecopgiaaDoorRoundsEnd
namespace Go.Proofs
open Go.Shelf Go.RowKit Go.Proofs.Wide

noncomputable def r22 : Code := (Tryd.f6.body.bind (regionOf 22)).getD .skip
def RkI (w0 : World) (ad : Addr) (len cap k : Nat) (n s m l a b e : Int) (c0 c2 c3 c4 c5 c6 c7 c8 c9 c10 c11 c12 c16 c17 c18 c19 c20 c21 c22 c23 c24 c25 c26 c27 c28 c29 c30 c31 c32 c33 c34 c35 c36 c37 c38 c39 c40 c41 c42 c43 c44 c45 c46 c47 c48 c49 c50 c51 c52 c53 c54 c55 c56 c57 c58 c59 c60 c61 c62 c63 c64 c65 c66 c67 c68 c69 c70 c71 c72 c73 c74 c75 c76 c77 c78 c79 c80 c81 c82 c83 c84 c85 c86 c87 c88 c89 c90 c91 c92 c93 c94 c95 c96 c97 c98 c99 c100 c101 c102 c103 c104 c105 c106 c107 c108 c109 c110 c111 c112 c113 c114 c115 c116 c117 c118 c119 c120 c121 c122 c123 c124 c125 c126 c127 c137 c138 c139 c140 c141 c142 c143 c144 c145 c146 c147 c148 c149 c150 c151 c152 c153 c154 c155 c156 c157 c158 c159 c160 c161 c162 c163 c164 : Value) (listed : Array Bool) (A : Act) (w : World) : Prop := ∃ (s14 s128 s129 s130 s131 s132 s133 s134 s135 s136 : Value), A = { tmps := #[c0, .slice (some ad) (len : Nat) cap, c2, c3, c4, c5, c6, c7, c8, c9, c10, c11, c12, .pointer (some ⟨w0.heap.size, 0, none⟩), s14, .int .i64 ((k : Nat)), c16, c17, c18, c19, c20, c21, c22, c23, c24, c25, c26, c27, c28, c29, c30, c31, c32, c33, c34, c35, c36, c37, c38, c39, c40, c41, c42, c43, c44, c45, c46, c47, c48, c49, c50, c51, c52, c53, c54, c55, c56, c57, c58, c59, c60, c61, c62, c63, c64, c65, c66, c67, c68, c69, c70, c71, c72, c73, c74, c75, c76, c77, c78, c79, c80, c81, c82, c83, c84, c85, c86, c87, c88, c89, c90, c91, c92, c93, c94, c95, c96, c97, c98, c99, c100, c101, c102, c103, c104, c105, c106, c107, c108, c109, c110, c111, c112, c113, c114, c115, c116, c117, c118, c119, c120, c121, c122, c123, c124, c125, c126, c127, s128, s129, s130, s131, s132, s133, s134, s135, s136, c137, c138, c139, c140, c141, c142, c143, c144, c145, c146, c147, c148, c149, c150, c151, c152, c153, c154, c155, c156, c157, c158, c159, c160, c161, c162, c163, c164], defers := [] } ∧
  (listed.getD 0 false = true → s129 = .agg #[.int .i64 (n), .int .i64 (s)]) ∧
  (listed.getD 1 false = true → s130 = .slice (some ad) (len : Nat) cap) ∧
  (listed.getD 2 false = true → s131 = .int .i64 ((k : Nat))) ∧
  (listed.getD 3 false = true → s132 = .pointer (some (ad.add (k * 2)))) ∧
  (listed.getD 4 false = true → s133 = .agg #[.int .i64 (m), .int .i64 (l)]) ∧
  (listed.getD 5 false = true → s134 = .tuple #[.agg #[.int .i64 a, .int .i64 b], .int .i64 e]) ∧
  (listed.getD 6 false = true → s128 = .tuple #[.agg #[.int .i64 a, .int .i64 b], .int .i64 e]) ∧
  (listed.getD 7 false = true → s135 = .agg #[.int .i64 a, .int .i64 b]) ∧
  (listed.getD 8 false = true → s136 = .int .i64 e) ∧
  (listed.getD 9 false = true → Own w (w0.heap.size) (.int .i64 a) (.int .i64 b)) ∧
  (listed.getD 10 false = true → s14 = .int .i64 e) ∧
  Below w0.heap.size w0 w ∧
  (listed.getD 9 false = false → Own w (w0.heap.size) (.int .i64 n) (.int .i64 s)) ∧
  (listed.getD 9 false = true → listed.getD 0 false = true)

set_option maxRecDepth 100000 in
set_option maxHeartbeats 8000000 in
theorem region22 (ad : Addr) (len cap k : Nat) (n s m l a b e : Int) (x14 x128 x129 x130 x131 x132 x133 x134 x135 x136 : Value) (c0 c2 c3 c4 c5 c6 c7 c8 c9 c10 c11 c12 c16 c17 c18 c19 c20 c21 c22 c23 c24 c25 c26 c27 c28 c29 c30 c31 c32 c33 c34 c35 c36 c37 c38 c39 c40 c41 c42 c43 c44 c45 c46 c47 c48 c49 c50 c51 c52 c53 c54 c55 c56 c57 c58 c59 c60 c61 c62 c63 c64 c65 c66 c67 c68 c69 c70 c71 c72 c73 c74 c75 c76 c77 c78 c79 c80 c81 c82 c83 c84 c85 c86 c87 c88 c89 c90 c91 c92 c93 c94 c95 c96 c97 c98 c99 c100 c101 c102 c103 c104 c105 c106 c107 c108 c109 c110 c111 c112 c113 c114 c115 c116 c117 c118 c119 c120 c121 c122 c123 c124 c125 c126 c127 c137 c138 c139 c140 c141 c142 c143 c144 c145 c146 c147 c148 c149 c150 c151 c152 c153 c154 c155 c156 c157 c158 c159 c160 c161 c162 c163 c164 : Value) (W1 W0 : World) (Q : Exit → Act → World → Prop) (hk : k < len)
    (HB0 : Below W1.heap.size W1 W0) (O : Own W0 W1.heap.size (.int .i64 n) (.int .i64 s)) (hb1 : ad.block < W1.heap.size) (hd1 : W1.cell? (ad.add (k * 2)) = some (.int .i64 m)) (hd2 : W1.cell? ⟨(ad.add (k * 2)).block, (ad.add (k * 2)).off + 1, none⟩ = some (.int .i64 l))
    (GA : Hid (Gives 18 #[.agg #[.int .i64 n, .int .i64 s], .agg #[.int .i64 m, .int .i64 l]] (.tuple #[.agg #[.int .i64 a, .int .i64 b], .int .i64 e])))
    (hQ : ∀ w, Own w W1.heap.size (.int .i64 a) (.int .i64 b) → Below W1.heap.size W1 w → Q .normal { tmps := #[c0, .slice (some ad) (len : Nat) cap, c2, c3, c4, c5, c6, c7, c8, c9, c10, c11, c12, .pointer (some ⟨W1.heap.size, 0, none⟩), .int .i64 e, .int .i64 ((k : Nat)), c16, c17, c18, c19, c20, c21, c22, c23, c24, c25, c26, c27, c28, c29, c30, c31, c32, c33, c34, c35, c36, c37, c38, c39, c40, c41, c42, c43, c44, c45, c46, c47, c48, c49, c50, c51, c52, c53, c54, c55, c56, c57, c58, c59, c60, c61, c62, c63, c64, c65, c66, c67, c68, c69, c70, c71, c72, c73, c74, c75, c76, c77, c78, c79, c80, c81, c82, c83, c84, c85, c86, c87, c88, c89, c90, c91, c92, c93, c94, c95, c96, c97, c98, c99, c100, c101, c102, c103, c104, c105, c106, c107, c108, c109, c110, c111, c112, c113, c114, c115, c116, c117, c118, c119, c120, c121, c122, c123, c124, c125, c126, c127, .tuple #[.agg #[.int .i64 a, .int .i64 b], .int .i64 e], .agg #[.int .i64 (n), .int .i64 (s)], .slice (some ad) (len : Nat) cap, .int .i64 ((k : Nat)), .pointer (some (ad.add (k * 2))), .agg #[.int .i64 (m), .int .i64 (l)], .tuple #[.agg #[.int .i64 a, .int .i64 b], .int .i64 e], .agg #[.int .i64 a, .int .i64 b], .int .i64 e, c137, c138, c139, c140, c141, c142, c143, c144, c145, c146, c147, c148, c149, c150, c151, c152, c153, c154, c155, c156, c157, c158, c159, c160, c161, c162, c163, c164], defers := [] } w) :
    Code.wp Tryd.prog r22 Q { tmps := #[c0, .slice (some ad) (len : Nat) cap, c2, c3, c4, c5, c6, c7, c8, c9, c10, c11, c12, .pointer (some ⟨W1.heap.size, 0, none⟩), x14, .int .i64 ((k : Nat)), c16, c17, c18, c19, c20, c21, c22, c23, c24, c25, c26, c27, c28, c29, c30, c31, c32, c33, c34, c35, c36, c37, c38, c39, c40, c41, c42, c43, c44, c45, c46, c47, c48, c49, c50, c51, c52, c53, c54, c55, c56, c57, c58, c59, c60, c61, c62, c63, c64, c65, c66, c67, c68, c69, c70, c71, c72, c73, c74, c75, c76, c77, c78, c79, c80, c81, c82, c83, c84, c85, c86, c87, c88, c89, c90, c91, c92, c93, c94, c95, c96, c97, c98, c99, c100, c101, c102, c103, c104, c105, c106, c107, c108, c109, c110, c111, c112, c113, c114, c115, c116, c117, c118, c119, c120, c121, c122, c123, c124, c125, c126, c127, x128, x129, x130, x131, x132, x133, x134, x135, x136, c137, c138, c139, c140, c141, c142, c143, c144, c145, c146, c147, c148, c149, c150, c151, c152, c153, c154, c155, c156, c157, c158, c159, c160, c161, c162, c163, c164], defers := [] } W0 := by
  unfold r22
  conv => arg 2; whnf
  refine wp_region_inv (by kernel_rfl) (by kernel_rfl) (RkI W1 ad len cap k n s m l a b e c0 c2 c3 c4 c5 c6 c7 c8 c9 c10 c11 c12 c16 c17 c18 c19 c20 c21 c22 c23 c24 c25 c26 c27 c28 c29 c30 c31 c32 c33 c34 c35 c36 c37 c38 c39 c40 c41 c42 c43 c44 c45 c46 c47 c48 c49 c50 c51 c52 c53 c54 c55 c56 c57 c58 c59 c60 c61 c62 c63 c64 c65 c66 c67 c68 c69 c70 c71 c72 c73 c74 c75 c76 c77 c78 c79 c80 c81 c82 c83 c84 c85 c86 c87 c88 c89 c90 c91 c92 c93 c94 c95 c96 c97 c98 c99 c100 c101 c102 c103 c104 c105 c106 c107 c108 c109 c110 c111 c112 c113 c114 c115 c116 c117 c118 c119 c120 c121 c122 c123 c124 c125 c126 c127 c137 c138 c139 c140 c141 c142 c143 c144 c145 c146 c147 c148 c149 c150 c151 c152 c153 c154 c155 c156 c157 c158 c159 c160 c161 c162 c163 c164) ?_ ?_ ?_
  · exact ⟨_, _, _, _, _, _, _, _, _, _, rfl, fun h => absurd h l0, fun h => absurd h l0, fun h => absurd h l0, fun h => absurd h l0, fun h => absurd h l0, fun h => absurd h l0, fun h => absurd h l0, fun h => absurd h l0, fun h => absurd h l0, fun h => absurd h l0, fun h => absurd h l0, bdr HB0, fun _ => O.drew, fun h => absurd h l0⟩
  · intro i o listed A w hi ho hd hn hI
    obtain ⟨s14, s128, s129, s130, s131, s132, s133, s134, s135, s136, rfl, F0, F1, F2, F3, F4, F5, F6, F7, F8, F9, F10, F11, F12, F13⟩ := hI
    have hi' : i < 11 := hi
    clear hi
    rcases (by omega : i = 0 ∨ i = 1 ∨ i = 2 ∨ i = 3 ∨ i = 4 ∨ i = 5 ∨ i = 6 ∨ i = 7 ∨ i = 8 ∨ i = 9 ∨ i = 10) with rfl | rfl | rfl | rfl | rfl | rfl | rfl | rfl | rfl | rfl | rfl
    · simp only [List.getElem?_toArray, List.getElem?_cons_zero, Option.some.injEq] at ho
      subst ho
      have O'0 := F12 (ln hn F13); have O''0 := O'0; obtain ⟨_, _, _, _⟩ := O''0
      refine wpOp_step rfl (fun K hK => ?_)
      go_simp
      refine hK _ _ ?_
      exact ⟨_, _, _, _, _, _, _, _, _, _, rfl, fun _ => rfl, fun h => F1 (ls (by decide) h), fun h => F2 (ls (by decide) h), fun h => F3 (ls (by decide) h), fun h => F4 (ls (by decide) h), fun h => F5 (ls (by decide) h), fun h => F6 (ls (by decide) h), fun h => F7 (ls (by decide) h), fun h => F8 (ls (by decide) h), fun h => F9 (ls (by decide) h), fun h => F10 (ls (by decide) h), F11, fun h => F12 (lsf (by decide) h), fun _ => lself hn⟩
    · simp only [List.getElem?_toArray, List.getElem?_cons_zero, List.getElem?_cons_succ, Option.some.injEq] at ho
      subst ho
      refine wpOp_step rfl (fun K hK => ?_)
      go_simp
      refine hK _ _ ?_
      exact ⟨_, _, _, _, _, _, _, _, _, _, rfl, fun h => F0 (ls (by decide) h), fun _ => rfl, fun h => F2 (ls (by decide) h), fun h => F3 (ls (by decide) h), fun h => F4 (ls (by decide) h), fun h => F5 (ls (by decide) h), fun h => F6 (ls (by decide) h), fun h => F7 (ls (by decide) h), fun h => F8 (ls (by decide) h), fun h => F9 (ls (by decide) h), fun h => F10 (ls (by decide) h), F11, fun h => F12 (lsf (by decide) h), fun h => la (F13 (ls (by decide) h))⟩
    · simp only [List.getElem?_toArray, List.getElem?_cons_zero, List.getElem?_cons_succ, Option.some.injEq] at ho
      subst ho
      refine wpOp_step rfl (fun K hK => ?_)
      go_simp
      refine hK _ _ ?_
      exact ⟨_, _, _, _, _, _, _, _, _, _, rfl, fun h => F0 (ls (by decide) h), fun h => F1 (ls (by decide) h), fun _ => rfl, fun h => F3 (ls (by decide) h), fun h => F4 (ls (by decide) h), fun h => F5 (ls (by decide) h), fun h => F6 (ls (by decide) h), fun h => F7 (ls (by decide) h), fun h => F8 (ls (by decide) h), fun h => F9 (ls (by decide) h), fun h => F10 (ls (by decide) h), F11, fun h => F12 (lsf (by decide) h), fun h => la (F13 (ls (by decide) h))⟩
    · simp only [List.getElem?_toArray, List.getElem?_cons_zero, List.getElem?_cons_succ, Option.some.injEq] at ho
      subst ho
      obtain rfl := F1 (hd ⟨1, .data⟩ (by simp) rfl)
      obtain rfl := F2 (hd ⟨2, .data⟩ (by simp) rfl)
      refine wpOp_step rfl (fun K hK => ?_)
      go_simp
      refine hK _ _ ?_
      exact ⟨_, _, _, _, _, _, _, _, _, _, rfl, fun h => F0 (ls (by decide) h), fun h => F1 (ls (by decide) h), fun h => F2 (ls (by decide) h), fun _ => rfl, fun h => F4 (ls (by decide) h), fun h => F5 (ls (by decide) h), fun h => F6 (ls (by decide) h), fun h => F7 (ls (by decide) h), fun h => F8 (ls (by decide) h), fun h => F9 (ls (by decide) h), fun h => F10 (ls (by decide) h), F11, fun h => F12 (lsf (by decide) h), fun h => la (F13 (ls (by decide) h))⟩
    · simp only [List.getElem?_toArray, List.getElem?_cons_zero, List.getElem?_cons_succ, Option.some.injEq] at ho
      subst ho
      obtain rfl := F3 (hd ⟨3, .data⟩ (by simp) rfl)
      have d1 := (F11.cell (p := ad.add (k * 2)) (by rw [block_of_add]; exact hb1)).trans hd1; have d2 := (F11.cell (p := ⟨(ad.add (k * 2)).block, (ad.add (k * 2)).off + 1, none⟩) (by show (ad.add (k * 2)).block < _; rw [block_of_add]; exact hb1)).trans hd2
      all_goals
        refine wpOp_step rfl (fun K hK => ?_)
        go_simp
        refine hK _ _ ?_
        exact ⟨_, _, _, _, _, _, _, _, _, _, rfl, fun h => F0 (ls (by decide) h), fun h => F1 (ls (by decide) h), fun h => F2 (ls (by decide) h), fun h => F3 (ls (by decide) h), fun _ => rfl, fun h => F5 (ls (by decide) h), fun h => F6 (ls (by decide) h), fun h => F7 (ls (by decide) h), fun h => F8 (ls (by decide) h), fun h => F9 (ls (by decide) h), fun h => F10 (ls (by decide) h), F11, fun h => F12 (lsf (by decide) h), fun h => la (F13 (ls (by decide) h))⟩
    · simp only [List.getElem?_toArray, List.getElem?_cons_zero, List.getElem?_cons_succ, Option.some.injEq] at ho
      subst ho
      obtain rfl := F0 (hd ⟨0, .data⟩ (by simp) rfl)
      obtain rfl := F4 (hd ⟨4, .data⟩ (by simp) rfl)
      refine wpOp_step rfl (fun K hK => ?_)
      go_simp
      go_at_call 18; refine (GA.out.call _).mono ?_; rintro e w' ⟨rfl, hb⟩
      refine hK _ _ ?_
      exact ⟨_, _, _, _, _, _, _, _, _, _, rfl, fun h => F0 (ls (by decide) h), fun h => F1 (ls (by decide) h), fun h => F2 (ls (by decide) h), fun h => F3 (ls (by decide) h), fun h => F4 (ls (by decide) h), fun _ => rfl, fun h => F6 (ls (by decide) h), fun h => F7 (ls (by decide) h), fun h => F8 (ls (by decide) h), fun h => ((F9 (ls (by decide) h))).call hb, fun h => F10 (ls (by decide) h), bt F11 hb, fun h => ((F12 (lsf (by decide) h))).call hb, fun h => la (F13 (ls (by decide) h))⟩
    · simp only [List.getElem?_toArray, List.getElem?_cons_zero, List.getElem?_cons_succ, Option.some.injEq] at ho
      subst ho
      obtain rfl := F5 (hd ⟨5, .data⟩ (by simp) rfl)
      refine wpOp_step rfl (fun K hK => ?_)
      go_simp
      refine hK _ _ ?_
      exact ⟨_, _, _, _, _, _, _, _, _, _, rfl, fun h => F0 (ls (by decide) h), fun h => F1 (ls (by decide) h), fun h => F2 (ls (by decide) h), fun h => F3 (ls (by decide) h), fun h => F4 (ls (by decide) h), fun h => F5 (ls (by decide) h), fun _ => rfl, fun h => F7 (ls (by decide) h), fun h => F8 (ls (by decide) h), fun h => F9 (ls (by decide) h), fun h => F10 (ls (by decide) h), F11, fun h => F12 (lsf (by decide) h), fun h => la (F13 (ls (by decide) h))⟩
    · simp only [List.getElem?_toArray, List.getElem?_cons_zero, List.getElem?_cons_succ, Option.some.injEq] at ho
      subst ho
      obtain rfl := F6 (hd ⟨6, .data⟩ (by simp) rfl)
      refine wpOp_step rfl (fun K hK => ?_)
      go_simp
      refine hK _ _ ?_
      exact ⟨_, _, _, _, _, _, _, _, _, _, rfl, fun h => F0 (ls (by decide) h), fun h => F1 (ls (by decide) h), fun h => F2 (ls (by decide) h), fun h => F3 (ls (by decide) h), fun h => F4 (ls (by decide) h), fun h => F5 (ls (by decide) h), fun h => F6 (ls (by decide) h), fun _ => rfl, fun h => F8 (ls (by decide) h), fun h => F9 (ls (by decide) h), fun h => F10 (ls (by decide) h), F11, fun h => F12 (lsf (by decide) h), fun h => la (F13 (ls (by decide) h))⟩
    · simp only [List.getElem?_toArray, List.getElem?_cons_zero, List.getElem?_cons_succ, Option.some.injEq] at ho
      subst ho
      obtain rfl := F6 (hd ⟨6, .data⟩ (by simp) rfl)
      refine wpOp_step rfl (fun K hK => ?_)
      go_simp
      refine hK _ _ ?_
      exact ⟨_, _, _, _, _, _, _, _, _, _, rfl, fun h => F0 (ls (by decide) h), fun h => F1 (ls (by decide) h), fun h => F2 (ls (by decide) h), fun h => F3 (ls (by decide) h), fun h => F4 (ls (by decide) h), fun h => F5 (ls (by decide) h), fun h => F6 (ls (by decide) h), fun h => F7 (ls (by decide) h), fun _ => rfl, fun h => F9 (ls (by decide) h), fun h => F10 (ls (by decide) h), F11, fun h => F12 (lsf (by decide) h), fun h => la (F13 (ls (by decide) h))⟩
    · simp only [List.getElem?_toArray, List.getElem?_cons_zero, List.getElem?_cons_succ, Option.some.injEq] at ho
      subst ho
      obtain rfl := F7 (hd ⟨7, .data⟩ (by simp) rfl)
      have O'0 := F12 (lf hn); have O''0 := O'0; obtain ⟨_, _, _, _⟩ := O''0
      refine wpOp_step rfl (fun K hK => ?_)
      go_simp
      refine hK _ _ ?_
      exact ⟨_, _, _, _, _, _, _, _, _, _, rfl, fun h => F0 (ls (by decide) h), fun h => F1 (ls (by decide) h), fun h => F2 (ls (by decide) h), fun h => F3 (ls (by decide) h), fun h => F4 (ls (by decide) h), fun h => F5 (ls (by decide) h), fun h => F6 (ls (by decide) h), fun h => F7 (ls (by decide) h), fun h => F8 (ls (by decide) h), fun _ => O'0.store _ _, fun h => F10 (ls (by decide) h), bs (bs F11 (by first | (simp; done) | (simp; omega))) (by first | (simp; done) | (simp; omega)), fun h => _root_.Go.lx hn h, fun _ => la (hd ⟨0, .phase⟩ (by simp) rfl)⟩
    · simp only [List.getElem?_toArray, List.getElem?_cons_zero, List.getElem?_cons_succ, Option.some.injEq] at ho
      subst ho
      obtain rfl := F8 (hd ⟨8, .data⟩ (by simp) rfl)
      refine wpOp_step rfl (fun K hK => ?_)
      go_simp
      refine hK _ _ ?_
      exact ⟨_, _, _, _, _, _, _, _, _, _, rfl, fun h => F0 (ls (by decide) h), fun h => F1 (ls (by decide) h), fun h => F2 (ls (by decide) h), fun h => F3 (ls (by decide) h), fun h => F4 (ls (by decide) h), fun h => F5 (ls (by decide) h), fun h => F6 (ls (by decide) h), fun h => F7 (ls (by decide) h), fun h => F8 (ls (by decide) h), fun h => F9 (ls (by decide) h), fun _ => rfl, F11, fun h => F12 (lsf (by decide) h), fun h => la (F13 (ls (by decide) h))⟩
  · intro listed A w hall hI
    obtain ⟨s14, s128, s129, s130, s131, s132, s133, s134, s135, s136, rfl, F0, F1, F2, F3, F4, F5, F6, F7, F8, F9, F10, F11, F12, F13⟩ := hI
    obtain rfl := F0 (hall 0 (by decide))
    obtain rfl := F1 (hall 1 (by decide))
    obtain rfl := F2 (hall 2 (by decide))
    obtain rfl := F3 (hall 3 (by decide))
    obtain rfl := F4 (hall 4 (by decide))
    obtain rfl := F5 (hall 5 (by decide))
    obtain rfl := F6 (hall 6 (by decide))
    obtain rfl := F7 (hall 7 (by decide))
    obtain rfl := F8 (hall 8 (by decide))
    obtain rfl := F10 (hall 10 (by decide))
    have P9 := F9 (hall 9 (by decide))
    have HB := F11
    clear hall F9 F11 F12 F13 F0 F1 F2 F3 F4 F5 F6 F7 F8 F10
    try dsimp only

    exact hQ _ P9 HB
end Go.Proofs
