/- The statement DecForms: numbers made. No condition beyond what the theorems state. -/
import Derived.Test.YtmggffhecopgiaaDoorFormsTail
namespace Go.Proofs
open Go.Shelf Go.RowKit Go.Proofs.Wide Go.Proofs.Dig
set_option maxRecDepth 100000 in
set_option maxHeartbeats 8000000 in
theorem forms_bad (n k : Int) (hk : (decide (k < 0) = true) ∨ (decide (k < 0) = false ∧ decide (9 < k) = true)) (G11 : Hid (Gives 11 #[.int .i64 n, .int .i64 k] (.tuple #[.agg #[.int .i64 0, .int .i64 0], .int .i64 2]))) (s : ByteArray) (pn pk pe : Int) (rb : Bool) (c0 c3 c4 c5 c6 c7 c8 c9 c10 c11 c12 c13 c14 c15 c16 c17 c18 c19 c20 c21 c22 c23 c24 c25 c26 c27 c28 c29 c30 c31 c32 c33 c34 c35 c36 c37 c38 c39 c40 c41 c42 c43 c44 c45 c46 c47 c48 c49 c50 c51 c52 c53 c54 c55 c56 c57 c58 c59 c60 c61 c62 c63 c64 c65 c66 c67 c68 c69 c70 c71 c72 c73 c74 c75 c76 c77 c78 c79 c80 c81 c82 c83 c84 c85 c86 c87 c88 c89 c90 c91 c92 c93 c94 c95 c96 c97 c98 c99 c100 c101 c102 c103 c104 c105 c106 c107 c108 c109 c110 c111 c112 c113 c114 c115 c116 c117 c118 c119 c120 c121 c122 c123 c124 c125 c126 c127 c128 c129 c130 c131 c132 c133 c134 c135 c136 c137 c138 c139 c140 c141 c142 c143 c144 c145 c146 c147 c148 c149 c150 c151 c152 c153 : Value) (w0 W : World) (hb : Below w0.heap.size w0 W) (A0 : Own W w0.heap.size (.int .i64 n) (.int .i64 k))
    (GP : Hid (Gives 14 #[.string s] (.tuple #[.agg #[.int .i64 pn, .int .i64 pk], .int .i64 pe]))) (GR : Hid (Gives 15 #[.string s] (.tuple #[.int .i64 pn, .int .i64 pk, .int .i64 pe])))
    (R : Hid (Gives 10 #[.agg #[.int .i64 n, .int .i64 k]] (.bool rb)))
    (HT : rb = false ∨ (rb = true ∧ ∃ t : ByteArray, Hid (FmtG w0 n k t) ∧ Hid (Gives 14 #[.string t] (.tuple #[.agg #[.int .i64 n, .int .i64 k], .int .i64 0])) ∧ Hid (Gives 17 #[.int .i64 n, .int .i64 k] (.string t))))
    (K : Act → World → Prop) (hK : ∀ a w, Code.wp Tryd.prog (skipn 4 fbody) (bodyPost Tryd.prog Tryd.f3 fun e w' => e = .returned (.bool true) ∧ Below w0.heap.size w0 w') a w → K a w) :
    Code.wp Tryd.prog ((Tryd.f3.body.bind (regionOf 5)).getD .skip) (Exit.then K (bodyPost Tryd.prog Tryd.f3 fun e w' => e = .returned (.bool true) ∧ Below w0.heap.size w0 w')) { tmps := #[c0, .string s, .pointer (some ⟨w0.heap.size, 0, none⟩), c3, c4, c5, c6, c7, c8, c9, c10, c11, c12, c13, c14, c15, c16, c17, c18, c19, c20, c21, c22, c23, c24, c25, c26, c27, c28, c29, c30, c31, c32, c33, c34, c35, c36, c37, c38, c39, c40, c41, c42, c43, c44, c45, c46, c47, c48, c49, c50, c51, c52, c53, c54, c55, c56, c57, c58, c59, c60, c61, c62, c63, c64, c65, c66, c67, c68, c69, c70, c71, c72, c73, c74, c75, c76, c77, c78, c79, c80, c81, c82, c83, c84, c85, c86, c87, c88, c89, c90, c91, c92, c93, c94, c95, c96, c97, c98, c99, c100, c101, c102, c103, c104, c105, c106, c107, c108, c109, c110, c111, c112, c113, c114, c115, c116, c117, c118, c119, c120, c121, c122, c123, c124, c125, c126, c127, c128, c129, c130, c131, c132, c133, c134, c135, c136, c137, c138, c139, c140, c141, c142, c143, c144, c145, c146, c147, c148, c149, c150, c151, c152, c153], defers := [] } W := by
  have HH := Lib.hid HT
  clear HT
  conv => arg 2; whnf
  conv at hK => enter [a, w, 1, 2]; whnf
  obtain ⟨_, _, _, _⟩ := id A0
  rcases hk with hk | ⟨hk, hk9⟩
  all_goals
    go_upto_region 12 with (go_at_call 11; refine (G11.out.call _).mono ?_; rintro e w1 ⟨rfl, hb1⟩; have A1 := A0.call hb1; have B1 := bt hb hb1; obtain ⟨_, _, _, _⟩ := id A1; have a1 := A1.lt)
    refine forms_tail n k s pn pk pe rb _ _ _ _ _ _ _ _ _ _ _ _ _ _ _ _ _ _ _ _ _ _ _ _ _ _ _ _ _ _ _ _ _ _ _ _ _ _ _ _ _ _ _ _ _ _ _ _ _ _ _ _ _ _ _ _ _ _ _ _ _ _ _ _ _ _ _ _ _ _ _ _ _ _ _ _ _ _ _ _ _ _ _ _ _ _ _ _ _ _ _ _ _ _ _ _ _ _ _ _ _ _ _ _ _ _ _ _ _ _ _ _ _ _ _ _ _ _ _ _ _ _ _ _ _ _ _ _ _ _ _ _ _ _ _ _ _ _ _ _ _ _ _ _ _ _ _ _ _ _ _ _ w0 _ (ba B1) (A1.alloc _) GP GR R HH.out _ ?_
    assumption
set_option maxRecDepth 100000 in
set_option maxHeartbeats 8000000 in
theorem forms_good (n : Int) (j : Nat) (hj : j ≤ 9) (neg : Bool) (l : List Int) (F : Option (Int × Nat)) (hF : ∀ a c, F = some (a, c) → Hid (Rights [(a, (c : Int))] true)) (G11 : Hid (Gives 11 #[.int .i64 n, .int .i64 (j : Nat)] (.tuple #[.agg #[.int .i64 (outN F), .int .i64 (outK F)], .int .i64 (outE F)])))
    (HO : Hid (OfG n neg l)) (HF : Hid (FitG neg l j (outN F) (outK F) F.isSome)) (s : ByteArray) (pn pk pe : Int) (rb : Bool) (c0 c3 c4 c5 c6 c7 c8 c9 c10 c11 c12 c13 c14 c15 c16 c17 c18 c19 c20 c21 c22 c23 c24 c25 c26 c27 c28 c29 c30 c31 c32 c33 c34 c35 c36 c37 c38 c39 c40 c41 c42 c43 c44 c45 c46 c47 c48 c49 c50 c51 c52 c53 c54 c55 c56 c57 c58 c59 c60 c61 c62 c63 c64 c65 c66 c67 c68 c69 c70 c71 c72 c73 c74 c75 c76 c77 c78 c79 c80 c81 c82 c83 c84 c85 c86 c87 c88 c89 c90 c91 c92 c93 c94 c95 c96 c97 c98 c99 c100 c101 c102 c103 c104 c105 c106 c107 c108 c109 c110 c111 c112 c113 c114 c115 c116 c117 c118 c119 c120 c121 c122 c123 c124 c125 c126 c127 c128 c129 c130 c131 c132 c133 c134 c135 c136 c137 c138 c139 c140 c141 c142 c143 c144 c145 c146 c147 c148 c149 c150 c151 c152 c153 : Value) (w0 W : World) (hb : Below w0.heap.size w0 W) (A0 : Own W w0.heap.size (.int .i64 n) (.int .i64 (j : Nat)))
    (GP : Hid (Gives 14 #[.string s] (.tuple #[.agg #[.int .i64 pn, .int .i64 pk], .int .i64 pe]))) (GR : Hid (Gives 15 #[.string s] (.tuple #[.int .i64 pn, .int .i64 pk, .int .i64 pe])))
    (R : Hid (Gives 10 #[.agg #[.int .i64 n, .int .i64 (j : Nat)]] (.bool rb)))
    (HT : rb = false ∨ (rb = true ∧ ∃ t : ByteArray, Hid (FmtG w0 n (j : Nat) t) ∧ Hid (Gives 14 #[.string t] (.tuple #[.agg #[.int .i64 n, .int .i64 (j : Nat)], .int .i64 0])) ∧ Hid (Gives 17 #[.int .i64 n, .int .i64 (j : Nat)] (.string t))))
    (K : Act → World → Prop) (hK : ∀ a w, Code.wp Tryd.prog (skipn 4 fbody) (bodyPost Tryd.prog Tryd.f3 fun e w' => e = .returned (.bool true) ∧ Below w0.heap.size w0 w') a w → K a w) :
    Code.wp Tryd.prog ((Tryd.f3.body.bind (regionOf 5)).getD .skip) (Exit.then K (bodyPost Tryd.prog Tryd.f3 fun e w' => e = .returned (.bool true) ∧ Below w0.heap.size w0 w')) { tmps := #[c0, .string s, .pointer (some ⟨w0.heap.size, 0, none⟩), c3, c4, c5, c6, c7, c8, c9, c10, c11, c12, c13, c14, c15, c16, c17, c18, c19, c20, c21, c22, c23, c24, c25, c26, c27, c28, c29, c30, c31, c32, c33, c34, c35, c36, c37, c38, c39, c40, c41, c42, c43, c44, c45, c46, c47, c48, c49, c50, c51, c52, c53, c54, c55, c56, c57, c58, c59, c60, c61, c62, c63, c64, c65, c66, c67, c68, c69, c70, c71, c72, c73, c74, c75, c76, c77, c78, c79, c80, c81, c82, c83, c84, c85, c86, c87, c88, c89, c90, c91, c92, c93, c94, c95, c96, c97, c98, c99, c100, c101, c102, c103, c104, c105, c106, c107, c108, c109, c110, c111, c112, c113, c114, c115, c116, c117, c118, c119, c120, c121, c122, c123, c124, c125, c126, c127, c128, c129, c130, c131, c132, c133, c134, c135, c136, c137, c138, c139, c140, c141, c142, c143, c144, c145, c146, c147, c148, c149, c150, c151, c152, c153], defers := [] } W := by
  have HH := Lib.hid HT
  clear HT
  conv => arg 2; whnf
  conv at hK => enter [a, w, 1, 2]; whnf
  obtain ⟨_, _, _, _⟩ := id A0
  have hk0 : decide ((j : Int) < 0) = false := by simp
  have hk9 : decide ((9 : Int) < (j : Int)) = false := by simp; omega
  have HFF := Lib.hid hF
  clear hF
  cases F with
  | none =>
    unfold outN outK outE Option.isSome at *
    go_upto_region 9 with (go_at_call 11; refine (G11.out.call _).mono ?_; rintro e w1 ⟨rfl, hb1⟩; have A1 := A0.call hb1; have B1 := bt hb hb1; obtain ⟨_, _, _, _⟩ := id A1; have a1 := A1.lt)
    refine forms9 n j neg l _ _ _ w1.heap.size _ _ _ _ _ _ _ _ _ _ _ _ _ _ _ _ _ _ _ _ _ _ _ _ _ _ _ _ _ _ _ _ _ _ _ _ _ _ _ _ _ _ _ _ _ _ _ _ _ _ _ _ _ _ _ _ _ _ _ _ _ _ _ _ _ _ _ _ _ _ _ _ _ _ _ _ _ _ _ _ _ _ _ _ _ _ _ _ _ _ _ _ _ _ _ _ _ _ _ _ _ _ _ _ _ _ _ _ _ _ _ _ _ _ _ _ _ _ _ _ _ _ _ _ _ _ _ _ _ _ _ _ _ _ _ _ _ _ _ _ _ _ _ _ _ _ _ _ _ _ _ _ _ _ _ w0 _ _ (ba B1) (A1.alloc _) (Own.new_at rfl) HO HF ?_
    intro w2 y67 A2 M2 B2
    obtain ⟨_, _, _, _⟩ := id M2
    go_upto_region 12 with fail
    refine forms_tail n (j : Nat) s pn pk pe rb _ _ _ _ _ _ _ _ _ _ _ _ _ _ _ _ _ _ _ _ _ _ _ _ _ _ _ _ _ _ _ _ _ _ _ _ _ _ _ _ _ _ _ _ _ _ _ _ _ _ _ _ _ _ _ _ _ _ _ _ _ _ _ _ _ _ _ _ _ _ _ _ _ _ _ _ _ _ _ _ _ _ _ _ _ _ _ _ _ _ _ _ _ _ _ _ _ _ _ _ _ _ _ _ _ _ _ _ _ _ _ _ _ _ _ _ _ _ _ _ _ _ _ _ _ _ _ _ _ _ _ _ _ _ _ _ _ _ _ _ _ _ _ _ _ _ _ _ _ _ _ _ w0 _ B2 A2 GP GR R HH.out _ ?_
    assumption
  | some q =>
    obtain ⟨a, c⟩ := q
    have HR := HFF.out a c rfl
    clear HFF
    unfold outN outK outE Option.isSome at *
    go_upto_region 9 with (go_at_call 11; refine (G11.out.call _).mono ?_; rintro e w1 ⟨rfl, hb1⟩; have A1 := A0.call hb1; have B1 := bt hb hb1; obtain ⟨_, _, _, _⟩ := id A1; have a1 := A1.lt)
    refine forms9 n j neg l _ _ _ w1.heap.size _ _ _ _ _ _ _ _ _ _ _ _ _ _ _ _ _ _ _ _ _ _ _ _ _ _ _ _ _ _ _ _ _ _ _ _ _ _ _ _ _ _ _ _ _ _ _ _ _ _ _ _ _ _ _ _ _ _ _ _ _ _ _ _ _ _ _ _ _ _ _ _ _ _ _ _ _ _ _ _ _ _ _ _ _ _ _ _ _ _ _ _ _ _ _ _ _ _ _ _ _ _ _ _ _ _ _ _ _ _ _ _ _ _ _ _ _ _ _ _ _ _ _ _ _ _ _ _ _ _ _ _ _ _ _ _ _ _ _ _ _ _ _ _ _ _ _ _ _ _ _ _ _ _ _ w0 _ _ (ba B1) (A1.alloc _) (Own.new_at rfl) HO HF ?_
    intro w2 y67 A2 M2 B2
    obtain ⟨_, _, _, _⟩ := id M2
    go_upto_region 12 with (go_at_call 9; refine (HR.out _ _ (nums_one a c rfl) (by simp)).mono ?_; rintro e w3 ⟨rfl, hb3⟩; have A3 := (A2.alloc _).call hb3; have B3 := bt (ba B2) hb3)
    refine forms_tail n (j : Nat) s pn pk pe rb _ _ _ _ _ _ _ _ _ _ _ _ _ _ _ _ _ _ _ _ _ _ _ _ _ _ _ _ _ _ _ _ _ _ _ _ _ _ _ _ _ _ _ _ _ _ _ _ _ _ _ _ _ _ _ _ _ _ _ _ _ _ _ _ _ _ _ _ _ _ _ _ _ _ _ _ _ _ _ _ _ _ _ _ _ _ _ _ _ _ _ _ _ _ _ _ _ _ _ _ _ _ _ _ _ _ _ _ _ _ _ _ _ _ _ _ _ _ _ _ _ _ _ _ _ _ _ _ _ _ _ _ _ _ _ _ _ _ _ _ _ _ _ _ _ _ _ _ _ _ _ _ w0 _ B3 A3 GP GR R HH.out _ ?_
    assumption
end Go.Proofs
