/- The statement DecRounds: which whole number is next. No condition beyond what the theorems state. -/
import Derived.Test.YtmggffhecopgiaaDoorRoundsLoop
namespace Go.Proofs
open Go.Shelf Go.RowKit Go.Proofs.Wide

set_option maxRecDepth 100000 in
set_option maxHeartbeats 8000000 in
theorem rounds_mid (n k q c r an ak bn bk y : Int) (L : List (Int × Int)) (hI : ∀ p ∈ L, InI p.1 ∧ InI p.2) (h5 : L.length ≤ 500) (gg : Option Addr) (cap g5 g6 g7 : Nat) (c0 c3 c4 c8 c9 c10 c11 c12 c13 c14 c15 c16 c17 c18 c19 c20 c21 c22 c23 c24 c25 c26 c27 c28 c29 c30 c31 c32 c33 c34 c35 c36 c37 c38 c39 c40 c41 c42 c43 c44 c45 c46 c47 c48 c49 c50 c51 c52 c53 c54 c55 c56 c57 c58 c59 c60 c61 c62 c63 c64 c65 c66 c67 c68 c69 c70 c71 c72 c73 c74 c75 c76 c77 c78 c79 c80 c81 c82 c83 c84 c85 c86 c87 c88 c89 c90 c91 c92 c93 c94 c95 c96 c97 c98 c99 c100 c101 c102 c103 c104 c105 c106 c107 c108 c109 c110 c111 c112 c113 c114 c115 c116 c117 c118 c119 c120 c121 c122 c123 c124 c125 c126 c127 c128 c129 c130 c131 c132 c133 c134 c135 c136 c137 c138 c139 c140 c141 c142 c143 c144 c145 c146 c147 c148 c149 c150 c151 c152 c153 c154 c155 c156 c157 c158 c159 c160 c161 c162 c163 c164 : Value) (w0 W : World)
    (hr : Reads w0 w0.heap.size 2 gg L.length (rowL L)) (hb : Below w0.heap.size w0 W) (A0 : Own W w0.heap.size (.int .i64 n) (.int .i64 k)) (X0 : Own W g5 (.int .i64 q) (.int .i64 0)) (Y0 : Own W g6 (.int .i64 c) (.int .i64 0)) (Z0 : Own W g7 (.int .i64 r) (.int .i64 0))
    (S1 : Hid (Gives 19 #[.agg #[.int .i64 n, .int .i64 k], .agg #[.int .i64 q, .int .i64 0]] (.tuple #[.agg #[.int .i64 an, .int .i64 ak], .int .i64 0]))) (S2 : Hid (Gives 19 #[.agg #[.int .i64 c, .int .i64 0], .agg #[.int .i64 n, .int .i64 k]] (.tuple #[.agg #[.int .i64 bn, .int .i64 bk], .int .i64 0])))
    (K3 : Hid (Gives 25 #[.agg #[.int .i64 an, .int .i64 ak], .agg #[.int .i64 bn, .int .i64 bk]] (.int .i64 y))) (hw : (0 ≤ y ∧ c = r) ∨ (¬ 0 ≤ y ∧ q = r)) (K : Act → World → Prop) (hK : ∀ a w, Code.wp Tryd.prog (skipn 5 rbody) (bodyPost Tryd.prog Tryd.f6 fun e w' => e = .returned (.bool true) ∧ Below w0.heap.size w0 w') a w → K a w) :
    Code.wp Tryd.prog ((Tryd.f6.body.bind (regionOf 6)).getD .skip) (Exit.then K (bodyPost Tryd.prog Tryd.f6 fun e w' => e = .returned (.bool true) ∧ Below w0.heap.size w0 w')) { tmps := #[c0, .slice gg (L.length : Nat) cap, .pointer (some ⟨w0.heap.size, 0, none⟩), c3, c4, .pointer (some ⟨g5, 0, none⟩), .pointer (some ⟨g6, 0, none⟩), .pointer (some ⟨g7, 0, none⟩), c8, c9, c10, c11, c12, c13, c14, c15, c16, c17, c18, c19, c20, c21, c22, c23, c24, c25, c26, c27, c28, c29, c30, c31, c32, c33, c34, c35, c36, c37, c38, c39, c40, c41, c42, c43, c44, c45, c46, c47, c48, c49, c50, c51, c52, c53, c54, c55, c56, c57, c58, c59, c60, c61, c62, c63, c64, c65, c66, c67, c68, c69, c70, c71, c72, c73, c74, c75, c76, c77, c78, c79, c80, c81, c82, c83, c84, c85, c86, c87, c88, c89, c90, c91, c92, c93, c94, c95, c96, c97, c98, c99, c100, c101, c102, c103, c104, c105, c106, c107, c108, c109, c110, c111, c112, c113, c114, c115, c116, c117, c118, c119, c120, c121, c122, c123, c124, c125, c126, c127, c128, c129, c130, c131, c132, c133, c134, c135, c136, c137, c138, c139, c140, c141, c142, c143, c144, c145, c146, c147, c148, c149, c150, c151, c152, c153, c154, c155, c156, c157, c158, c159, c160, c161, c162, c163, c164], defers := [] } W := by
  conv => arg 2; whnf
  conv at hK => enter [a, w, 1, 2]; whnf
  have HL := Lib.hid hI
  have Hr := Lib.hid hr
  clear hI hr
  obtain ⟨_, _, _, _⟩ := id A0; obtain ⟨_, _, _, _⟩ := id X0
  go_wp2_with fail
  go_at_call 19; refine (S1.out.call _).mono ?_; rintro e w1 ⟨rfl, hb1⟩
  have A1 := A0.call hb1; have X1 := X0.call hb1; have Y1 := Y0.call hb1; have Z1 := Z0.call hb1; have B1 := bt hb hb1
  clear A0 X0 Y0 Z0 hb hb1
  obtain ⟨_, _, _, _⟩ := id A1; obtain ⟨_, _, _, _⟩ := id Y1; have a1 := A1.lt; have y1 := Y1.lt
  go_wp2_with fail
  go_at_call 19; refine (S2.out.call _).mono ?_; rintro e w2 ⟨rfl, hb2⟩
  have U1 : Own (w1.alloc (.cells #[.int .i64 an, .int .i64 ak] 23)) w1.heap.size (.int .i64 an) (.int .i64 ak) := Own.new_at rfl
  have A2 := (A1.alloc _).call hb2; have X2 := (X1.alloc _).call hb2; have Y2 := (Y1.alloc _).call hb2; have Z2 := (Z1.alloc _).call hb2; have U2 := U1.call hb2
  have B2 := bt (ba B1) hb2
  obtain ⟨_, _, _, _⟩ := id X2; obtain ⟨_, _, _, _⟩ := id U2
  have x2 := X2.lt; have u2 := U2.lt; have y2 := Y2.lt; have z2 := Z2.lt
  clear A1 X1 Y1 Z1 U1 B1 hb2 A2 S1 S2
  rcases hw with ⟨hy, rfl⟩ | ⟨hy, rfl⟩
  all_goals
    go_upto_region 15 with (go_at_call 25; refine (K3.out.call _).mono ?_; rintro e w3 ⟨rfl, hb3⟩; have V2 : Own (w2.alloc (.cells #[.int .i64 bn, .int .i64 bk] 23)) w2.heap.size (.int .i64 bn) (.int .i64 bk) := Own.new_at rfl; have N2 : Own ((w2.alloc (.cells #[.int .i64 bn, .int .i64 bk] 23)).alloc (.cells #[.int .i64 q, .int .i64 0] 23)) (w2.heap.size + 1) (.int .i64 q) (.int .i64 0) := Own.new_at (by simp); have N3 := N2.call hb3; have Y3 := ((Y2.alloc _).alloc _).call hb3; have Z3 := ((Z2.alloc _).alloc _).call hb3; have B3 := bt (ba (ba B2)) hb3; obtain ⟨_, _, _, _⟩ := id N3; obtain ⟨_, _, _, _⟩ := id Y3; obtain ⟨_, _, _, _⟩ := id Z3; have hne : g7 ≠ w2.heap.size + 1 := (by omega); have hne' : g6 ≠ w2.heap.size + 1 := (by omega))
    have BE : Below w0.heap.size w0 w3 := B3
    refine rounds_loop L HL.out h5 gg cap _ _ _ _ _ _ _ _ _ _ _ _ _ _ _ _ _ _ _ _ _ _ _ _ _ _ _ _ _ _ _ _ _ _ _ _ _ _ _ _ _ _ _ _ _ _ _ _ _ _ _ _ _ _ _ _ _ _ _ _ _ _ _ _ _ _ _ _ _ _ _ _ _ _ _ _ _ _ _ _ _ _ _ _ _ _ _ _ _ _ _ _ _ _ _ _ _ _ _ _ _ _ _ _ _ _ _ _ _ _ _ _ _ _ _ _ _ _ _ _ _ _ _ _ _ _ _ _ _ _ _ _ _ _ _ _ _ _ _ _ _ _ _ _ _ _ _ _ _ _ _ _ _ _ _ _ _ _ _ _ _ _ _ _ w0 _ ?_ ?_ _ ?_
    · first | exact ((Hr.out.below BE).setCell (by simp; have := B2.size; omega) _ |>.setCell (by simp; have := B2.size; omega) _).more (by simp; exact BE.size) | exact (Hr.out.below BE).more BE.size
    · first | exact BE | exact bs (bs BE (by simp; have := B2.size; omega)) (by simp; have := B2.size; omega)
    · assumption
end Go.Proofs
