/- The statement DecRounds: what they are held against. No condition beyond what the theorems state. -/
import Derived.Test.YtmggffhecopgiaaDoorRoundsEnd
namespace Go.Proofs
open Go.Shelf Go.RowKit Go.Proofs.Wide

def RbI (w0 : World) (n k q c r y1 y2 : Int) (bb : Bool) (g5 g6 g7 : Nat) (c0 c1 c3 c4 c8 c9 c10 c11 c12 c13 c14 c15 c16 c17 c18 c19 c20 c21 c22 c23 c24 c25 c26 c27 c28 c29 c30 c31 c32 c33 c34 c35 c36 c86 c87 c88 c89 c90 c91 c92 c93 c94 c95 c96 c97 c98 c99 c100 c101 c102 c103 c104 c105 c106 c107 c108 c109 c110 c111 c112 c113 c114 c115 c116 c117 c118 c119 c120 c121 c122 c123 c124 c125 c126 c127 c128 c129 c130 c131 c132 c133 c134 c135 c136 c137 c138 c139 c140 c141 c142 c143 c144 c145 c146 c147 c148 c149 c150 c151 c152 c153 c154 c155 c156 c157 c158 c159 c160 c161 c162 c163 c164 : Value) (listed : Array Bool) (A : Act) (w : World) : Prop := ∃ (s37 s38 s39 s40 s41 s42 s43 s44 s45 s46 s47 s48 s49 s50 s51 s52 s53 s54 s55 s56 s57 s58 s59 s60 s61 s62 s63 s64 s65 s66 s67 s68 s69 s70 s71 s72 s73 s74 s75 s76 s77 s78 s79 s80 s81 s82 s83 s84 s85 : Value), A = { tmps := #[c0, c1, .pointer (some ⟨w0.heap.size, 0, none⟩), c3, c4, .pointer (some ⟨g5, 0, none⟩), .pointer (some ⟨g6, 0, none⟩), .pointer (some ⟨g7, 0, none⟩), c8, c9, c10, c11, c12, c13, c14, c15, c16, c17, c18, c19, c20, c21, c22, c23, c24, c25, c26, c27, c28, c29, c30, c31, c32, c33, c34, c35, c36, s37, s38, s39, s40, s41, s42, s43, s44, s45, s46, s47, s48, s49, s50, s51, s52, s53, s54, s55, s56, s57, s58, s59, s60, s61, s62, s63, s64, s65, s66, s67, s68, s69, s70, s71, s72, s73, s74, s75, s76, s77, s78, s79, s80, s81, s82, s83, s84, s85, c86, c87, c88, c89, c90, c91, c92, c93, c94, c95, c96, c97, c98, c99, c100, c101, c102, c103, c104, c105, c106, c107, c108, c109, c110, c111, c112, c113, c114, c115, c116, c117, c118, c119, c120, c121, c122, c123, c124, c125, c126, c127, c128, c129, c130, c131, c132, c133, c134, c135, c136, c137, c138, c139, c140, c141, c142, c143, c144, c145, c146, c147, c148, c149, c150, c151, c152, c153, c154, c155, c156, c157, c158, c159, c160, c161, c162, c163, c164], defers := [] } ∧
  (listed.getD 0 false = true → s37 = .pointer (some ⟨g5, 1, none⟩)) ∧
  (listed.getD 1 false = true → s38 = .int .i64 (0)) ∧
  (listed.getD 2 false = true → s39 = .bool false) ∧
  (listed.getD 3 false = true → s40 = .bool false) ∧
  (listed.getD 4 false = true → s41 = .pointer (some ⟨g6, 1, none⟩)) ∧
  (listed.getD 5 false = true → s42 = .int .i64 (0)) ∧
  (listed.getD 6 false = true → s43 = .bool false) ∧
  (listed.getD 7 false = true → s44 = .bool false) ∧
  (listed.getD 8 false = true → s45 = .bool false) ∧
  (listed.getD 9 false = true → s46 = .pointer (some ⟨g7, 1, none⟩)) ∧
  (listed.getD 10 false = true → s47 = .int .i64 (0)) ∧
  (listed.getD 11 false = true → s48 = .bool false) ∧
  (listed.getD 12 false = true → s49 = .bool false) ∧
  (listed.getD 13 false = true → s50 = .bool false) ∧
  (listed.getD 14 false = true → s51 = .agg #[.int .i64 (q), .int .i64 (0)]) ∧
  (listed.getD 15 false = true → s52 = .agg #[.int .i64 (n), .int .i64 (k)]) ∧
  (listed.getD 16 false = true → s53 = .int .i64 y1) ∧
  (listed.getD 17 false = true → s54 = .bool false) ∧
  (listed.getD 18 false = true → s55 = .bool false) ∧
  (listed.getD 19 false = true → s56 = .bool false) ∧
  (listed.getD 20 false = true → s57 = .agg #[.int .i64 (c), .int .i64 (0)]) ∧
  (listed.getD 21 false = true → s58 = .agg #[.int .i64 (n), .int .i64 (k)]) ∧
  (listed.getD 22 false = true → s59 = .int .i64 y2) ∧
  (listed.getD 23 false = true → s60 = .bool false) ∧
  (listed.getD 24 false = true → s61 = .bool false) ∧
  (listed.getD 25 false = true → s62 = .bool false) ∧
  (listed.getD 26 false = true → s63 = .pointer (some ⟨g6, 0, none⟩)) ∧
  (listed.getD 27 false = true → s64 = .int .i64 (c)) ∧
  (listed.getD 28 false = true → s65 = .pointer (some ⟨g5, 0, none⟩)) ∧
  (listed.getD 29 false = true → s66 = .int .i64 (q)) ∧
  (listed.getD 30 false = true → s67 = .int .i64 (c - q)) ∧
  (listed.getD 31 false = true → s68 = .bool false) ∧
  (listed.getD 32 false = true → s69 = .bool false) ∧
  (listed.getD 33 false = true → s70 = .bool false) ∧
  (listed.getD 34 false = true → s71 = .pointer (some ⟨g6, 0, none⟩)) ∧
  (listed.getD 35 false = true → s72 = .int .i64 (c)) ∧
  (listed.getD 36 false = true → s73 = .pointer (some ⟨g5, 0, none⟩)) ∧
  (listed.getD 37 false = true → s74 = .int .i64 (q)) ∧
  (listed.getD 38 false = true → s75 = .bool false) ∧
  (listed.getD 39 false = true → s76 = .bool false) ∧
  (listed.getD 40 false = true → s77 = .bool false) ∧
  (listed.getD 41 false = true → s78 = .agg #[.int .i64 (c), .int .i64 (0)]) ∧
  (listed.getD 42 false = true → s79 = .agg #[.int .i64 (q), .int .i64 (0)]) ∧
  (listed.getD 43 false = true → s80 = .bool bb) ∧
  (listed.getD 44 false = true → s81 = .pointer (some ⟨w0.heap.size, 1, none⟩)) ∧
  (listed.getD 45 false = true → s82 = .int .i64 (k)) ∧
  (listed.getD 46 false = true → s83 = .bool bb) ∧
  (listed.getD 47 false = true → s84 = .bool false) ∧
  (listed.getD 48 false = true → s85 = .bool false) ∧
  Below w0.heap.size w0 w ∧
  Own w (w0.heap.size) (.int .i64 n) (.int .i64 k) ∧
  Own w (g5) (.int .i64 q) (.int .i64 0) ∧
  Own w (g6) (.int .i64 c) (.int .i64 0) ∧
  Own w (g7) (.int .i64 r) (.int .i64 0)

set_option maxRecDepth 100000 in
set_option maxHeartbeats 16000000 in
theorem region4 (n k q c r y1 y2 : Int) (bb : Bool) (g5 g6 g7 : Nat) (x37 x38 x39 x40 x41 x42 x43 x44 x45 x46 x47 x48 x49 x50 x51 x52 x53 x54 x55 x56 x57 x58 x59 x60 x61 x62 x63 x64 x65 x66 x67 x68 x69 x70 x71 x72 x73 x74 x75 x76 x77 x78 x79 x80 x81 x82 x83 x84 x85 : Value) (c0 c1 c3 c4 c8 c9 c10 c11 c12 c13 c14 c15 c16 c17 c18 c19 c20 c21 c22 c23 c24 c25 c26 c27 c28 c29 c30 c31 c32 c33 c34 c35 c36 c86 c87 c88 c89 c90 c91 c92 c93 c94 c95 c96 c97 c98 c99 c100 c101 c102 c103 c104 c105 c106 c107 c108 c109 c110 c111 c112 c113 c114 c115 c116 c117 c118 c119 c120 c121 c122 c123 c124 c125 c126 c127 c128 c129 c130 c131 c132 c133 c134 c135 c136 c137 c138 c139 c140 c141 c142 c143 c144 c145 c146 c147 c148 c149 c150 c151 c152 c153 c154 c155 c156 c157 c158 c159 c160 c161 c162 c163 c164 : Value) (w0 W : World) (Q : Exit → Act → World → Prop)
    (hb : Below w0.heap.size w0 W) (A0 : Own W w0.heap.size (.int .i64 n) (.int .i64 k)) (X0 : Own W g5 (.int .i64 q) (.int .i64 0)) (Y0 : Own W g6 (.int .i64 c) (.int .i64 0)) (Z0 : Own W g7 (.int .i64 r) (.int .i64 0))
    (K1 : Hid (Gives 25 #[.agg #[.int .i64 (q), .int .i64 (0)], .agg #[.int .i64 (n), .int .i64 (k)]] (.int .i64 y1))) (K2 : Hid (Gives 25 #[.agg #[.int .i64 (c), .int .i64 (0)], .agg #[.int .i64 (n), .int .i64 (k)]] (.int .i64 y2))) (hx1 : decide (0 < y1) = false) (hx2 : decide (y2 < 0) = false)
    (hcq : IntKind.i64.wrap (c - q) = c - q) (hcq1 : decide (1 < c - q) = false) (hcq2 : decide (c < q) = false) (HBB : Hid ((c = q ∧ k = 0 ∧ bb = true) ∨ (¬ c = q ∧ (k == 0) = false ∧ bb = false)))
    (hQ : ∀ w, Own w w0.heap.size (.int .i64 n) (.int .i64 k) → Own w g5 (.int .i64 q) (.int .i64 0) → Own w g6 (.int .i64 c) (.int .i64 0) → Own w g7 (.int .i64 r) (.int .i64 0) → Below w0.heap.size w0 w → Q .normal { tmps := #[c0, c1, .pointer (some ⟨w0.heap.size, 0, none⟩), c3, c4, .pointer (some ⟨g5, 0, none⟩), .pointer (some ⟨g6, 0, none⟩), .pointer (some ⟨g7, 0, none⟩), c8, c9, c10, c11, c12, c13, c14, c15, c16, c17, c18, c19, c20, c21, c22, c23, c24, c25, c26, c27, c28, c29, c30, c31, c32, c33, c34, c35, c36, .pointer (some ⟨g5, 1, none⟩), .int .i64 (0), .bool false, .bool false, .pointer (some ⟨g6, 1, none⟩), .int .i64 (0), .bool false, .bool false, .bool false, .pointer (some ⟨g7, 1, none⟩), .int .i64 (0), .bool false, .bool false, .bool false, .agg #[.int .i64 (q), .int .i64 (0)], .agg #[.int .i64 (n), .int .i64 (k)], .int .i64 y1, .bool false, .bool false, .bool false, .agg #[.int .i64 (c), .int .i64 (0)], .agg #[.int .i64 (n), .int .i64 (k)], .int .i64 y2, .bool false, .bool false, .bool false, .pointer (some ⟨g6, 0, none⟩), .int .i64 (c), .pointer (some ⟨g5, 0, none⟩), .int .i64 (q), .int .i64 (c - q), .bool false, .bool false, .bool false, .pointer (some ⟨g6, 0, none⟩), .int .i64 (c), .pointer (some ⟨g5, 0, none⟩), .int .i64 (q), .bool false, .bool false, .bool false, .agg #[.int .i64 (c), .int .i64 (0)], .agg #[.int .i64 (q), .int .i64 (0)], .bool bb, .pointer (some ⟨w0.heap.size, 1, none⟩), .int .i64 (k), .bool bb, .bool false, .bool false, c86, c87, c88, c89, c90, c91, c92, c93, c94, c95, c96, c97, c98, c99, c100, c101, c102, c103, c104, c105, c106, c107, c108, c109, c110, c111, c112, c113, c114, c115, c116, c117, c118, c119, c120, c121, c122, c123, c124, c125, c126, c127, c128, c129, c130, c131, c132, c133, c134, c135, c136, c137, c138, c139, c140, c141, c142, c143, c144, c145, c146, c147, c148, c149, c150, c151, c152, c153, c154, c155, c156, c157, c158, c159, c160, c161, c162, c163, c164], defers := [] } w) :
    Code.wp Tryd.prog ((Tryd.f6.body.bind (regionOf 4)).getD .skip) Q { tmps := #[c0, c1, .pointer (some ⟨w0.heap.size, 0, none⟩), c3, c4, .pointer (some ⟨g5, 0, none⟩), .pointer (some ⟨g6, 0, none⟩), .pointer (some ⟨g7, 0, none⟩), c8, c9, c10, c11, c12, c13, c14, c15, c16, c17, c18, c19, c20, c21, c22, c23, c24, c25, c26, c27, c28, c29, c30, c31, c32, c33, c34, c35, c36, x37, x38, x39, x40, x41, x42, x43, x44, x45, x46, x47, x48, x49, x50, x51, x52, x53, x54, x55, x56, x57, x58, x59, x60, x61, x62, x63, x64, x65, x66, x67, x68, x69, x70, x71, x72, x73, x74, x75, x76, x77, x78, x79, x80, x81, x82, x83, x84, x85, c86, c87, c88, c89, c90, c91, c92, c93, c94, c95, c96, c97, c98, c99, c100, c101, c102, c103, c104, c105, c106, c107, c108, c109, c110, c111, c112, c113, c114, c115, c116, c117, c118, c119, c120, c121, c122, c123, c124, c125, c126, c127, c128, c129, c130, c131, c132, c133, c134, c135, c136, c137, c138, c139, c140, c141, c142, c143, c144, c145, c146, c147, c148, c149, c150, c151, c152, c153, c154, c155, c156, c157, c158, c159, c160, c161, c162, c163, c164], defers := [] } W := by
  conv => arg 2; whnf
  refine wp_region_inv (by kernel_rfl) (by kernel_rfl) (RbI w0 n k q c r y1 y2 bb g5 g6 g7 c0 c1 c3 c4 c8 c9 c10 c11 c12 c13 c14 c15 c16 c17 c18 c19 c20 c21 c22 c23 c24 c25 c26 c27 c28 c29 c30 c31 c32 c33 c34 c35 c36 c86 c87 c88 c89 c90 c91 c92 c93 c94 c95 c96 c97 c98 c99 c100 c101 c102 c103 c104 c105 c106 c107 c108 c109 c110 c111 c112 c113 c114 c115 c116 c117 c118 c119 c120 c121 c122 c123 c124 c125 c126 c127 c128 c129 c130 c131 c132 c133 c134 c135 c136 c137 c138 c139 c140 c141 c142 c143 c144 c145 c146 c147 c148 c149 c150 c151 c152 c153 c154 c155 c156 c157 c158 c159 c160 c161 c162 c163 c164) ?_ ?_ ?_
  · exact ⟨_, _, _, _, _, _, _, _, _, _, _, _, _, _, _, _, _, _, _, _, _, _, _, _, _, _, _, _, _, _, _, _, _, _, _, _, _, _, _, _, _, _, _, _, _, _, _, _, _, rfl, fun h => absurd h l0, fun h => absurd h l0, fun h => absurd h l0, fun h => absurd h l0, fun h => absurd h l0, fun h => absurd h l0, fun h => absurd h l0, fun h => absurd h l0, fun h => absurd h l0, fun h => absurd h l0, fun h => absurd h l0, fun h => absurd h l0, fun h => absurd h l0, fun h => absurd h l0, fun h => absurd h l0, fun h => absurd h l0, fun h => absurd h l0, fun h => absurd h l0, fun h => absurd h l0, fun h => absurd h l0, fun h => absurd h l0, fun h => absurd h l0, fun h => absurd h l0, fun h => absurd h l0, fun h => absurd h l0, fun h => absurd h l0, fun h => absurd h l0, fun h => absurd h l0, fun h => absurd h l0, fun h => absurd h l0, fun h => absurd h l0, fun h => absurd h l0, fun h => absurd h l0, fun h => absurd h l0, fun h => absurd h l0, fun h => absurd h l0, fun h => absurd h l0, fun h => absurd h l0, fun h => absurd h l0, fun h => absurd h l0, fun h => absurd h l0, fun h => absurd h l0, fun h => absurd h l0, fun h => absurd h l0, fun h => absurd h l0, fun h => absurd h l0, fun h => absurd h l0, fun h => absurd h l0, fun h => absurd h l0, bdr hb, A0.drew, X0.drew, Y0.drew, Z0.drew⟩
  · intro i o listed A w hi ho hd hn hI
    unfold RbI at hI
    obtain ⟨s37, hI⟩ := hI
    obtain ⟨s38, hI⟩ := hI
    obtain ⟨s39, hI⟩ := hI
    obtain ⟨s40, hI⟩ := hI
    obtain ⟨s41, hI⟩ := hI
    obtain ⟨s42, hI⟩ := hI
    obtain ⟨s43, hI⟩ := hI
    obtain ⟨s44, hI⟩ := hI
    obtain ⟨s45, hI⟩ := hI
    obtain ⟨s46, hI⟩ := hI
    obtain ⟨s47, hI⟩ := hI
    obtain ⟨s48, hI⟩ := hI
    obtain ⟨s49, hI⟩ := hI
    obtain ⟨s50, hI⟩ := hI
    obtain ⟨s51, hI⟩ := hI
    obtain ⟨s52, hI⟩ := hI
    obtain ⟨s53, hI⟩ := hI
    obtain ⟨s54, hI⟩ := hI
    obtain ⟨s55, hI⟩ := hI
    obtain ⟨s56, hI⟩ := hI
    obtain ⟨s57, hI⟩ := hI
    obtain ⟨s58, hI⟩ := hI
    obtain ⟨s59, hI⟩ := hI
    obtain ⟨s60, hI⟩ := hI
    obtain ⟨s61, hI⟩ := hI
    obtain ⟨s62, hI⟩ := hI
    obtain ⟨s63, hI⟩ := hI
    obtain ⟨s64, hI⟩ := hI
    obtain ⟨s65, hI⟩ := hI
    obtain ⟨s66, hI⟩ := hI
    obtain ⟨s67, hI⟩ := hI
    obtain ⟨s68, hI⟩ := hI
    obtain ⟨s69, hI⟩ := hI
    obtain ⟨s70, hI⟩ := hI
    obtain ⟨s71, hI⟩ := hI
    obtain ⟨s72, hI⟩ := hI
    obtain ⟨s73, hI⟩ := hI
    obtain ⟨s74, hI⟩ := hI
    obtain ⟨s75, hI⟩ := hI
    obtain ⟨s76, hI⟩ := hI
    obtain ⟨s77, hI⟩ := hI
    obtain ⟨s78, hI⟩ := hI
    obtain ⟨s79, hI⟩ := hI
    obtain ⟨s80, hI⟩ := hI
    obtain ⟨s81, hI⟩ := hI
    obtain ⟨s82, hI⟩ := hI
    obtain ⟨s83, hI⟩ := hI
    obtain ⟨s84, hI⟩ := hI
    obtain ⟨s85, hI⟩ := hI
    obtain ⟨rfl, hI⟩ := hI
    obtain ⟨F0, hI⟩ := hI
    obtain ⟨F1, hI⟩ := hI
    obtain ⟨F2, hI⟩ := hI
    obtain ⟨F3, hI⟩ := hI
    obtain ⟨F4, hI⟩ := hI
    obtain ⟨F5, hI⟩ := hI
    obtain ⟨F6, hI⟩ := hI
    obtain ⟨F7, hI⟩ := hI
    obtain ⟨F8, hI⟩ := hI
    obtain ⟨F9, hI⟩ := hI
    obtain ⟨F10, hI⟩ := hI
    obtain ⟨F11, hI⟩ := hI
    obtain ⟨F12, hI⟩ := hI
    obtain ⟨F13, hI⟩ := hI
    obtain ⟨F14, hI⟩ := hI
    obtain ⟨F15, hI⟩ := hI
    obtain ⟨F16, hI⟩ := hI
    obtain ⟨F17, hI⟩ := hI
    obtain ⟨F18, hI⟩ := hI
    obtain ⟨F19, hI⟩ := hI
    obtain ⟨F20, hI⟩ := hI
    obtain ⟨F21, hI⟩ := hI
    obtain ⟨F22, hI⟩ := hI
    obtain ⟨F23, hI⟩ := hI
    obtain ⟨F24, hI⟩ := hI
    obtain ⟨F25, hI⟩ := hI
    obtain ⟨F26, hI⟩ := hI
    obtain ⟨F27, hI⟩ := hI
    obtain ⟨F28, hI⟩ := hI
    obtain ⟨F29, hI⟩ := hI
    obtain ⟨F30, hI⟩ := hI
    obtain ⟨F31, hI⟩ := hI
    obtain ⟨F32, hI⟩ := hI
    obtain ⟨F33, hI⟩ := hI
    obtain ⟨F34, hI⟩ := hI
    obtain ⟨F35, hI⟩ := hI
    obtain ⟨F36, hI⟩ := hI
    obtain ⟨F37, hI⟩ := hI
    obtain ⟨F38, hI⟩ := hI
    obtain ⟨F39, hI⟩ := hI
    obtain ⟨F40, hI⟩ := hI
    obtain ⟨F41, hI⟩ := hI
    obtain ⟨F42, hI⟩ := hI
    obtain ⟨F43, hI⟩ := hI
    obtain ⟨F44, hI⟩ := hI
    obtain ⟨F45, hI⟩ := hI
    obtain ⟨F46, hI⟩ := hI
    obtain ⟨F47, hI⟩ := hI
    obtain ⟨F48, hI⟩ := hI
    obtain ⟨F49, hI⟩ := hI
    obtain ⟨F50, hI⟩ := hI
    obtain ⟨F51, hI⟩ := hI
    obtain ⟨F52, hI⟩ := hI
    have F53 := hI; clear hI
    have hi' : i < 49 := hi
    clear hi
    rcases (by omega : i = 0 ∨ i = 1 ∨ i = 2 ∨ i = 3 ∨ i = 4 ∨ i = 5 ∨ i = 6 ∨ i = 7 ∨ i = 8 ∨ i = 9 ∨ i = 10 ∨ i = 11 ∨ i = 12 ∨ i = 13 ∨ i = 14 ∨ i = 15 ∨ i = 16 ∨ i = 17 ∨ i = 18 ∨ i = 19 ∨ i = 20 ∨ i = 21 ∨ i = 22 ∨ i = 23 ∨ i = 24 ∨ i = 25 ∨ i = 26 ∨ i = 27 ∨ i = 28 ∨ i = 29 ∨ i = 30 ∨ i = 31 ∨ i = 32 ∨ i = 33 ∨ i = 34 ∨ i = 35 ∨ i = 36 ∨ i = 37 ∨ i = 38 ∨ i = 39 ∨ i = 40 ∨ i = 41 ∨ i = 42 ∨ i = 43 ∨ i = 44 ∨ i = 45 ∨ i = 46 ∨ i = 47 ∨ i = 48) with rfl | rfl | rfl | rfl | rfl | rfl | rfl | rfl | rfl | rfl | rfl | rfl | rfl | rfl | rfl | rfl | rfl | rfl | rfl | rfl | rfl | rfl | rfl | rfl | rfl | rfl | rfl | rfl | rfl | rfl | rfl | rfl | rfl | rfl | rfl | rfl | rfl | rfl | rfl | rfl | rfl | rfl | rfl | rfl | rfl | rfl | rfl | rfl | rfl
    · simp only [List.getElem?_toArray, List.getElem?_cons_zero, Option.some.injEq] at ho
      subst ho
      refine wpOp_step rfl (fun K hK => ?_)
      go_simp
      refine hK _ _ ?_
      exact ⟨_, _, _, _, _, _, _, _, _, _, _, _, _, _, _, _, _, _, _, _, _, _, _, _, _, _, _, _, _, _, _, _, _, _, _, _, _, _, _, _, _, _, _, _, _, _, _, _, _, rfl, fun _ => rfl, fun h => F1 (ls (by decide) h), fun h => F2 (ls (by decide) h), fun h => F3 (ls (by decide) h), fun h => F4 (ls (by decide) h), fun h => F5 (ls (by decide) h), fun h => F6 (ls (by decide) h), fun h => F7 (ls (by decide) h), fun h => F8 (ls (by decide) h), fun h => F9 (ls (by decide) h), fun h => F10 (ls (by decide) h), fun h => F11 (ls (by decide) h), fun h => F12 (ls (by decide) h), fun h => F13 (ls (by decide) h), fun h => F14 (ls (by decide) h), fun h => F15 (ls (by decide) h), fun h => F16 (ls (by decide) h), fun h => F17 (ls (by decide) h), fun h => F18 (ls (by decide) h), fun h => F19 (ls (by decide) h), fun h => F20 (ls (by decide) h), fun h => F21 (ls (by decide) h), fun h => F22 (ls (by decide) h), fun h => F23 (ls (by decide) h), fun h => F24 (ls (by decide) h), fun h => F25 (ls (by decide) h), fun h => F26 (ls (by decide) h), fun h => F27 (ls (by decide) h), fun h => F28 (ls (by decide) h), fun h => F29 (ls (by decide) h), fun h => F30 (ls (by decide) h), fun h => F31 (ls (by decide) h), fun h => F32 (ls (by decide) h), fun h => F33 (ls (by decide) h), fun h => F34 (ls (by decide) h), fun h => F35 (ls (by decide) h), fun h => F36 (ls (by decide) h), fun h => F37 (ls (by decide) h), fun h => F38 (ls (by decide) h), fun h => F39 (ls (by decide) h), fun h => F40 (ls (by decide) h), fun h => F41 (ls (by decide) h), fun h => F42 (ls (by decide) h), fun h => F43 (ls (by decide) h), fun h => F44 (ls (by decide) h), fun h => F45 (ls (by decide) h), fun h => F46 (ls (by decide) h), fun h => F47 (ls (by decide) h), fun h => F48 (ls (by decide) h), F49, F50, F51, F52, F53⟩
    · simp only [List.getElem?_toArray, List.getElem?_cons_zero, List.getElem?_cons_succ, Option.some.injEq] at ho
      subst ho
      obtain rfl := F0 (hd ⟨0, .data⟩ (by simp) rfl)
      have O'1 := F51; obtain ⟨_, _, _, _⟩ := O'1
      refine wpOp_step rfl (fun K hK => ?_)
      go_simp
      refine hK _ _ ?_
      exact ⟨_, _, _, _, _, _, _, _, _, _, _, _, _, _, _, _, _, _, _, _, _, _, _, _, _, _, _, _, _, _, _, _, _, _, _, _, _, _, _, _, _, _, _, _, _, _, _, _, _, rfl, fun h => F0 (ls (by decide) h), fun _ => rfl, fun h => F2 (ls (by decide) h), fun h => F3 (ls (by decide) h), fun h => F4 (ls (by decide) h), fun h => F5 (ls (by decide) h), fun h => F6 (ls (by decide) h), fun h => F7 (ls (by decide) h), fun h => F8 (ls (by decide) h), fun h => F9 (ls (by decide) h), fun h => F10 (ls (by decide) h), fun h => F11 (ls (by decide) h), fun h => F12 (ls (by decide) h), fun h => F13 (ls (by decide) h), fun h => F14 (ls (by decide) h), fun h => F15 (ls (by decide) h), fun h => F16 (ls (by decide) h), fun h => F17 (ls (by decide) h), fun h => F18 (ls (by decide) h), fun h => F19 (ls (by decide) h), fun h => F20 (ls (by decide) h), fun h => F21 (ls (by decide) h), fun h => F22 (ls (by decide) h), fun h => F23 (ls (by decide) h), fun h => F24 (ls (by decide) h), fun h => F25 (ls (by decide) h), fun h => F26 (ls (by decide) h), fun h => F27 (ls (by decide) h), fun h => F28 (ls (by decide) h), fun h => F29 (ls (by decide) h), fun h => F30 (ls (by decide) h), fun h => F31 (ls (by decide) h), fun h => F32 (ls (by decide) h), fun h => F33 (ls (by decide) h), fun h => F34 (ls (by decide) h), fun h => F35 (ls (by decide) h), fun h => F36 (ls (by decide) h), fun h => F37 (ls (by decide) h), fun h => F38 (ls (by decide) h), fun h => F39 (ls (by decide) h), fun h => F40 (ls (by decide) h), fun h => F41 (ls (by decide) h), fun h => F42 (ls (by decide) h), fun h => F43 (ls (by decide) h), fun h => F44 (ls (by decide) h), fun h => F45 (ls (by decide) h), fun h => F46 (ls (by decide) h), fun h => F47 (ls (by decide) h), fun h => F48 (ls (by decide) h), F49, F50, F51, F52, F53⟩
    · simp only [List.getElem?_toArray, List.getElem?_cons_zero, List.getElem?_cons_succ, Option.some.injEq] at ho
      subst ho
      obtain rfl := F1 (hd ⟨1, .data⟩ (by simp) rfl)
      refine wpOp_step rfl (fun K hK => ?_)
      go_simp
      refine hK _ _ ?_
      exact ⟨_, _, _, _, _, _, _, _, _, _, _, _, _, _, _, _, _, _, _, _, _, _, _, _, _, _, _, _, _, _, _, _, _, _, _, _, _, _, _, _, _, _, _, _, _, _, _, _, _, rfl, fun h => F0 (ls (by decide) h), fun h => F1 (ls (by decide) h), fun _ => rfl, fun h => F3 (ls (by decide) h), fun h => F4 (ls (by decide) h), fun h => F5 (ls (by decide) h), fun h => F6 (ls (by decide) h), fun h => F7 (ls (by decide) h), fun h => F8 (ls (by decide) h), fun h => F9 (ls (by decide) h), fun h => F10 (ls (by decide) h), fun h => F11 (ls (by decide) h), fun h => F12 (ls (by decide) h), fun h => F13 (ls (by decide) h), fun h => F14 (ls (by decide) h), fun h => F15 (ls (by decide) h), fun h => F16 (ls (by decide) h), fun h => F17 (ls (by decide) h), fun h => F18 (ls (by decide) h), fun h => F19 (ls (by decide) h), fun h => F20 (ls (by decide) h), fun h => F21 (ls (by decide) h), fun h => F22 (ls (by decide) h), fun h => F23 (ls (by decide) h), fun h => F24 (ls (by decide) h), fun h => F25 (ls (by decide) h), fun h => F26 (ls (by decide) h), fun h => F27 (ls (by decide) h), fun h => F28 (ls (by decide) h), fun h => F29 (ls (by decide) h), fun h => F30 (ls (by decide) h), fun h => F31 (ls (by decide) h), fun h => F32 (ls (by decide) h), fun h => F33 (ls (by decide) h), fun h => F34 (ls (by decide) h), fun h => F35 (ls (by decide) h), fun h => F36 (ls (by decide) h), fun h => F37 (ls (by decide) h), fun h => F38 (ls (by decide) h), fun h => F39 (ls (by decide) h), fun h => F40 (ls (by decide) h), fun h => F41 (ls (by decide) h), fun h => F42 (ls (by decide) h), fun h => F43 (ls (by decide) h), fun h => F44 (ls (by decide) h), fun h => F45 (ls (by decide) h), fun h => F46 (ls (by decide) h), fun h => F47 (ls (by decide) h), fun h => F48 (ls (by decide) h), F49, F50, F51, F52, F53⟩
    · simp only [List.getElem?_toArray, List.getElem?_cons_zero, List.getElem?_cons_succ, Option.some.injEq] at ho
      subst ho
      obtain rfl := F2 (hd ⟨2, .data⟩ (by simp) rfl)
      refine wpOp_step rfl (fun K hK => ?_)
      go_simp
      refine hK _ _ ?_
      exact ⟨_, _, _, _, _, _, _, _, _, _, _, _, _, _, _, _, _, _, _, _, _, _, _, _, _, _, _, _, _, _, _, _, _, _, _, _, _, _, _, _, _, _, _, _, _, _, _, _, _, rfl, fun h => F0 (ls (by decide) h), fun h => F1 (ls (by decide) h), fun h => F2 (ls (by decide) h), fun _ => rfl, fun h => F4 (ls (by decide) h), fun h => F5 (ls (by decide) h), fun h => F6 (ls (by decide) h), fun h => F7 (ls (by decide) h), fun h => F8 (ls (by decide) h), fun h => F9 (ls (by decide) h), fun h => F10 (ls (by decide) h), fun h => F11 (ls (by decide) h), fun h => F12 (ls (by decide) h), fun h => F13 (ls (by decide) h), fun h => F14 (ls (by decide) h), fun h => F15 (ls (by decide) h), fun h => F16 (ls (by decide) h), fun h => F17 (ls (by decide) h), fun h => F18 (ls (by decide) h), fun h => F19 (ls (by decide) h), fun h => F20 (ls (by decide) h), fun h => F21 (ls (by decide) h), fun h => F22 (ls (by decide) h), fun h => F23 (ls (by decide) h), fun h => F24 (ls (by decide) h), fun h => F25 (ls (by decide) h), fun h => F26 (ls (by decide) h), fun h => F27 (ls (by decide) h), fun h => F28 (ls (by decide) h), fun h => F29 (ls (by decide) h), fun h => F30 (ls (by decide) h), fun h => F31 (ls (by decide) h), fun h => F32 (ls (by decide) h), fun h => F33 (ls (by decide) h), fun h => F34 (ls (by decide) h), fun h => F35 (ls (by decide) h), fun h => F36 (ls (by decide) h), fun h => F37 (ls (by decide) h), fun h => F38 (ls (by decide) h), fun h => F39 (ls (by decide) h), fun h => F40 (ls (by decide) h), fun h => F41 (ls (by decide) h), fun h => F42 (ls (by decide) h), fun h => F43 (ls (by decide) h), fun h => F44 (ls (by decide) h), fun h => F45 (ls (by decide) h), fun h => F46 (ls (by decide) h), fun h => F47 (ls (by decide) h), fun h => F48 (ls (by decide) h), F49, F50, F51, F52, F53⟩
    · simp only [List.getElem?_toArray, List.getElem?_cons_zero, List.getElem?_cons_succ, Option.some.injEq] at ho
      subst ho
      obtain rfl := F3 (hd ⟨3, .guard⟩ (by simp) rfl)
      refine wpOp_step rfl (fun K hK => ?_)
      go_simp
      refine hK _ _ ?_
      exact ⟨_, _, _, _, _, _, _, _, _, _, _, _, _, _, _, _, _, _, _, _, _, _, _, _, _, _, _, _, _, _, _, _, _, _, _, _, _, _, _, _, _, _, _, _, _, _, _, _, _, rfl, fun h => F0 (ls (by decide) h), fun h => F1 (ls (by decide) h), fun h => F2 (ls (by decide) h), fun h => F3 (ls (by decide) h), fun _ => rfl, fun h => F5 (ls (by decide) h), fun h => F6 (ls (by decide) h), fun h => F7 (ls (by decide) h), fun h => F8 (ls (by decide) h), fun h => F9 (ls (by decide) h), fun h => F10 (ls (by decide) h), fun h => F11 (ls (by decide) h), fun h => F12 (ls (by decide) h), fun h => F13 (ls (by decide) h), fun h => F14 (ls (by decide) h), fun h => F15 (ls (by decide) h), fun h => F16 (ls (by decide) h), fun h => F17 (ls (by decide) h), fun h => F18 (ls (by decide) h), fun h => F19 (ls (by decide) h), fun h => F20 (ls (by decide) h), fun h => F21 (ls (by decide) h), fun h => F22 (ls (by decide) h), fun h => F23 (ls (by decide) h), fun h => F24 (ls (by decide) h), fun h => F25 (ls (by decide) h), fun h => F26 (ls (by decide) h), fun h => F27 (ls (by decide) h), fun h => F28 (ls (by decide) h), fun h => F29 (ls (by decide) h), fun h => F30 (ls (by decide) h), fun h => F31 (ls (by decide) h), fun h => F32 (ls (by decide) h), fun h => F33 (ls (by decide) h), fun h => F34 (ls (by decide) h), fun h => F35 (ls (by decide) h), fun h => F36 (ls (by decide) h), fun h => F37 (ls (by decide) h), fun h => F38 (ls (by decide) h), fun h => F39 (ls (by decide) h), fun h => F40 (ls (by decide) h), fun h => F41 (ls (by decide) h), fun h => F42 (ls (by decide) h), fun h => F43 (ls (by decide) h), fun h => F44 (ls (by decide) h), fun h => F45 (ls (by decide) h), fun h => F46 (ls (by decide) h), fun h => F47 (ls (by decide) h), fun h => F48 (ls (by decide) h), F49, F50, F51, F52, F53⟩
    · simp only [List.getElem?_toArray, List.getElem?_cons_zero, List.getElem?_cons_succ, Option.some.injEq] at ho
      subst ho
      obtain rfl := F4 (hd ⟨4, .data⟩ (by simp) rfl)
      obtain rfl := F3 (hd ⟨3, .guard⟩ (by simp) rfl)
      have O'2 := F52; obtain ⟨_, _, _, _⟩ := O'2
      refine wpOp_step rfl (fun K hK => ?_)
      go_simp
      refine hK _ _ ?_
      exact ⟨_, _, _, _, _, _, _, _, _, _, _, _, _, _, _, _, _, _, _, _, _, _, _, _, _, _, _, _, _, _, _, _, _, _, _, _, _, _, _, _, _, _, _, _, _, _, _, _, _, rfl, fun h => F0 (ls (by decide) h), fun h => F1 (ls (by decide) h), fun h => F2 (ls (by decide) h), fun h => F3 (ls (by decide) h), fun h => F4 (ls (by decide) h), fun _ => rfl, fun h => F6 (ls (by decide) h), fun h => F7 (ls (by decide) h), fun h => F8 (ls (by decide) h), fun h => F9 (ls (by decide) h), fun h => F10 (ls (by decide) h), fun h => F11 (ls (by decide) h), fun h => F12 (ls (by decide) h), fun h => F13 (ls (by decide) h), fun h => F14 (ls (by decide) h), fun h => F15 (ls (by decide) h), fun h => F16 (ls (by decide) h), fun h => F17 (ls (by decide) h), fun h => F18 (ls (by decide) h), fun h => F19 (ls (by decide) h), fun h => F20 (ls (by decide) h), fun h => F21 (ls (by decide) h), fun h => F22 (ls (by decide) h), fun h => F23 (ls (by decide) h), fun h => F24 (ls (by decide) h), fun h => F25 (ls (by decide) h), fun h => F26 (ls (by decide) h), fun h => F27 (ls (by decide) h), fun h => F28 (ls (by decide) h), fun h => F29 (ls (by decide) h), fun h => F30 (ls (by decide) h), fun h => F31 (ls (by decide) h), fun h => F32 (ls (by decide) h), fun h => F33 (ls (by decide) h), fun h => F34 (ls (by decide) h), fun h => F35 (ls (by decide) h), fun h => F36 (ls (by decide) h), fun h => F37 (ls (by decide) h), fun h => F38 (ls (by decide) h), fun h => F39 (ls (by decide) h), fun h => F40 (ls (by decide) h), fun h => F41 (ls (by decide) h), fun h => F42 (ls (by decide) h), fun h => F43 (ls (by decide) h), fun h => F44 (ls (by decide) h), fun h => F45 (ls (by decide) h), fun h => F46 (ls (by decide) h), fun h => F47 (ls (by decide) h), fun h => F48 (ls (by decide) h), F49, F50, F51, F52, F53⟩
    · simp only [List.getElem?_toArray, List.getElem?_cons_zero, List.getElem?_cons_succ, Option.some.injEq] at ho
      subst ho
      obtain rfl := F5 (hd ⟨5, .data⟩ (by simp) rfl)
      obtain rfl := F3 (hd ⟨3, .guard⟩ (by simp) rfl)
      refine wpOp_step rfl (fun K hK => ?_)
      go_simp
      refine hK _ _ ?_
      exact ⟨_, _, _, _, _, _, _, _, _, _, _, _, _, _, _, _, _, _, _, _, _, _, _, _, _, _, _, _, _, _, _, _, _, _, _, _, _, _, _, _, _, _, _, _, _, _, _, _, _, rfl, fun h => F0 (ls (by decide) h), fun h => F1 (ls (by decide) h), fun h => F2 (ls (by decide) h), fun h => F3 (ls (by decide) h), fun h => F4 (ls (by decide) h), fun h => F5 (ls (by decide) h), fun _ => rfl, fun h => F7 (ls (by decide) h), fun h => F8 (ls (by decide) h), fun h => F9 (ls (by decide) h), fun h => F10 (ls (by decide) h), fun h => F11 (ls (by decide) h), fun h => F12 (ls (by decide) h), fun h => F13 (ls (by decide) h), fun h => F14 (ls (by decide) h), fun h => F15 (ls (by decide) h), fun h => F16 (ls (by decide) h), fun h => F17 (ls (by decide) h), fun h => F18 (ls (by decide) h), fun h => F19 (ls (by decide) h), fun h => F20 (ls (by decide) h), fun h => F21 (ls (by decide) h), fun h => F22 (ls (by decide) h), fun h => F23 (ls (by decide) h), fun h => F24 (ls (by decide) h), fun h => F25 (ls (by decide) h), fun h => F26 (ls (by decide) h), fun h => F27 (ls (by decide) h), fun h => F28 (ls (by decide) h), fun h => F29 (ls (by decide) h), fun h => F30 (ls (by decide) h), fun h => F31 (ls (by decide) h), fun h => F32 (ls (by decide) h), fun h => F33 (ls (by decide) h), fun h => F34 (ls (by decide) h), fun h => F35 (ls (by decide) h), fun h => F36 (ls (by decide) h), fun h => F37 (ls (by decide) h), fun h => F38 (ls (by decide) h), fun h => F39 (ls (by decide) h), fun h => F40 (ls (by decide) h), fun h => F41 (ls (by decide) h), fun h => F42 (ls (by decide) h), fun h => F43 (ls (by decide) h), fun h => F44 (ls (by decide) h), fun h => F45 (ls (by decide) h), fun h => F46 (ls (by decide) h), fun h => F47 (ls (by decide) h), fun h => F48 (ls (by decide) h), F49, F50, F51, F52, F53⟩
    · simp only [List.getElem?_toArray, List.getElem?_cons_zero, List.getElem?_cons_succ, Option.some.injEq] at ho
      subst ho
      obtain rfl := F3 (hd ⟨3, .data⟩ (by simp) rfl)
      obtain rfl := F6 (hd ⟨6, .data⟩ (by simp) rfl)
      refine wpOp_step rfl (fun K hK => ?_)
      go_simp
      refine hK _ _ ?_
      exact ⟨_, _, _, _, _, _, _, _, _, _, _, _, _, _, _, _, _, _, _, _, _, _, _, _, _, _, _, _, _, _, _, _, _, _, _, _, _, _, _, _, _, _, _, _, _, _, _, _, _, rfl, fun h => F0 (ls (by decide) h), fun h => F1 (ls (by decide) h), fun h => F2 (ls (by decide) h), fun h => F3 (ls (by decide) h), fun h => F4 (ls (by decide) h), fun h => F5 (ls (by decide) h), fun h => F6 (ls (by decide) h), fun _ => rfl, fun h => F8 (ls (by decide) h), fun h => F9 (ls (by decide) h), fun h => F10 (ls (by decide) h), fun h => F11 (ls (by decide) h), fun h => F12 (ls (by decide) h), fun h => F13 (ls (by decide) h), fun h => F14 (ls (by decide) h), fun h => F15 (ls (by decide) h), fun h => F16 (ls (by decide) h), fun h => F17 (ls (by decide) h), fun h => F18 (ls (by decide) h), fun h => F19 (ls (by decide) h), fun h => F20 (ls (by decide) h), fun h => F21 (ls (by decide) h), fun h => F22 (ls (by decide) h), fun h => F23 (ls (by decide) h), fun h => F24 (ls (by decide) h), fun h => F25 (ls (by decide) h), fun h => F26 (ls (by decide) h), fun h => F27 (ls (by decide) h), fun h => F28 (ls (by decide) h), fun h => F29 (ls (by decide) h), fun h => F30 (ls (by decide) h), fun h => F31 (ls (by decide) h), fun h => F32 (ls (by decide) h), fun h => F33 (ls (by decide) h), fun h => F34 (ls (by decide) h), fun h => F35 (ls (by decide) h), fun h => F36 (ls (by decide) h), fun h => F37 (ls (by decide) h), fun h => F38 (ls (by decide) h), fun h => F39 (ls (by decide) h), fun h => F40 (ls (by decide) h), fun h => F41 (ls (by decide) h), fun h => F42 (ls (by decide) h), fun h => F43 (ls (by decide) h), fun h => F44 (ls (by decide) h), fun h => F45 (ls (by decide) h), fun h => F46 (ls (by decide) h), fun h => F47 (ls (by decide) h), fun h => F48 (ls (by decide) h), F49, F50, F51, F52, F53⟩
    · simp only [List.getElem?_toArray, List.getElem?_cons_zero, List.getElem?_cons_succ, Option.some.injEq] at ho
      subst ho
      obtain rfl := F7 (hd ⟨7, .data⟩ (by simp) rfl)
      refine wpOp_step rfl (fun K hK => ?_)
      go_simp
      refine hK _ _ ?_
      exact ⟨_, _, _, _, _, _, _, _, _, _, _, _, _, _, _, _, _, _, _, _, _, _, _, _, _, _, _, _, _, _, _, _, _, _, _, _, _, _, _, _, _, _, _, _, _, _, _, _, _, rfl, fun h => F0 (ls (by decide) h), fun h => F1 (ls (by decide) h), fun h => F2 (ls (by decide) h), fun h => F3 (ls (by decide) h), fun h => F4 (ls (by decide) h), fun h => F5 (ls (by decide) h), fun h => F6 (ls (by decide) h), fun h => F7 (ls (by decide) h), fun _ => rfl, fun h => F9 (ls (by decide) h), fun h => F10 (ls (by decide) h), fun h => F11 (ls (by decide) h), fun h => F12 (ls (by decide) h), fun h => F13 (ls (by decide) h), fun h => F14 (ls (by decide) h), fun h => F15 (ls (by decide) h), fun h => F16 (ls (by decide) h), fun h => F17 (ls (by decide) h), fun h => F18 (ls (by decide) h), fun h => F19 (ls (by decide) h), fun h => F20 (ls (by decide) h), fun h => F21 (ls (by decide) h), fun h => F22 (ls (by decide) h), fun h => F23 (ls (by decide) h), fun h => F24 (ls (by decide) h), fun h => F25 (ls (by decide) h), fun h => F26 (ls (by decide) h), fun h => F27 (ls (by decide) h), fun h => F28 (ls (by decide) h), fun h => F29 (ls (by decide) h), fun h => F30 (ls (by decide) h), fun h => F31 (ls (by decide) h), fun h => F32 (ls (by decide) h), fun h => F33 (ls (by decide) h), fun h => F34 (ls (by decide) h), fun h => F35 (ls (by decide) h), fun h => F36 (ls (by decide) h), fun h => F37 (ls (by decide) h), fun h => F38 (ls (by decide) h), fun h => F39 (ls (by decide) h), fun h => F40 (ls (by decide) h), fun h => F41 (ls (by decide) h), fun h => F42 (ls (by decide) h), fun h => F43 (ls (by decide) h), fun h => F44 (ls (by decide) h), fun h => F45 (ls (by decide) h), fun h => F46 (ls (by decide) h), fun h => F47 (ls (by decide) h), fun h => F48 (ls (by decide) h), F49, F50, F51, F52, F53⟩
    · simp only [List.getElem?_toArray, List.getElem?_cons_zero, List.getElem?_cons_succ, Option.some.injEq] at ho
      subst ho
      obtain rfl := F8 (hd ⟨8, .guard⟩ (by simp) rfl)
      refine wpOp_step rfl (fun K hK => ?_)
      go_simp
      refine hK _ _ ?_
      exact ⟨_, _, _, _, _, _, _, _, _, _, _, _, _, _, _, _, _, _, _, _, _, _, _, _, _, _, _, _, _, _, _, _, _, _, _, _, _, _, _, _, _, _, _, _, _, _, _, _, _, rfl, fun h => F0 (ls (by decide) h), fun h => F1 (ls (by decide) h), fun h => F2 (ls (by decide) h), fun h => F3 (ls (by decide) h), fun h => F4 (ls (by decide) h), fun h => F5 (ls (by decide) h), fun h => F6 (ls (by decide) h), fun h => F7 (ls (by decide) h), fun h => F8 (ls (by decide) h), fun _ => rfl, fun h => F10 (ls (by decide) h), fun h => F11 (ls (by decide) h), fun h => F12 (ls (by decide) h), fun h => F13 (ls (by decide) h), fun h => F14 (ls (by decide) h), fun h => F15 (ls (by decide) h), fun h => F16 (ls (by decide) h), fun h => F17 (ls (by decide) h), fun h => F18 (ls (by decide) h), fun h => F19 (ls (by decide) h), fun h => F20 (ls (by decide) h), fun h => F21 (ls (by decide) h), fun h => F22 (ls (by decide) h), fun h => F23 (ls (by decide) h), fun h => F24 (ls (by decide) h), fun h => F25 (ls (by decide) h), fun h => F26 (ls (by decide) h), fun h => F27 (ls (by decide) h), fun h => F28 (ls (by decide) h), fun h => F29 (ls (by decide) h), fun h => F30 (ls (by decide) h), fun h => F31 (ls (by decide) h), fun h => F32 (ls (by decide) h), fun h => F33 (ls (by decide) h), fun h => F34 (ls (by decide) h), fun h => F35 (ls (by decide) h), fun h => F36 (ls (by decide) h), fun h => F37 (ls (by decide) h), fun h => F38 (ls (by decide) h), fun h => F39 (ls (by decide) h), fun h => F40 (ls (by decide) h), fun h => F41 (ls (by decide) h), fun h => F42 (ls (by decide) h), fun h => F43 (ls (by decide) h), fun h => F44 (ls (by decide) h), fun h => F45 (ls (by decide) h), fun h => F46 (ls (by decide) h), fun h => F47 (ls (by decide) h), fun h => F48 (ls (by decide) h), F49, F50, F51, F52, F53⟩
    · simp only [List.getElem?_toArray, List.getElem?_cons_zero, List.getElem?_cons_succ, Option.some.injEq] at ho
      subst ho
      obtain rfl := F9 (hd ⟨9, .data⟩ (by simp) rfl)
      obtain rfl := F8 (hd ⟨8, .guard⟩ (by simp) rfl)
      have O'3 := F53; obtain ⟨_, _, _, _⟩ := O'3
      refine wpOp_step rfl (fun K hK => ?_)
      go_simp
      refine hK _ _ ?_
      exact ⟨_, _, _, _, _, _, _, _, _, _, _, _, _, _, _, _, _, _, _, _, _, _, _, _, _, _, _, _, _, _, _, _, _, _, _, _, _, _, _, _, _, _, _, _, _, _, _, _, _, rfl, fun h => F0 (ls (by decide) h), fun h => F1 (ls (by decide) h), fun h => F2 (ls (by decide) h), fun h => F3 (ls (by decide) h), fun h => F4 (ls (by decide) h), fun h => F5 (ls (by decide) h), fun h => F6 (ls (by decide) h), fun h => F7 (ls (by decide) h), fun h => F8 (ls (by decide) h), fun h => F9 (ls (by decide) h), fun _ => rfl, fun h => F11 (ls (by decide) h), fun h => F12 (ls (by decide) h), fun h => F13 (ls (by decide) h), fun h => F14 (ls (by decide) h), fun h => F15 (ls (by decide) h), fun h => F16 (ls (by decide) h), fun h => F17 (ls (by decide) h), fun h => F18 (ls (by decide) h), fun h => F19 (ls (by decide) h), fun h => F20 (ls (by decide) h), fun h => F21 (ls (by decide) h), fun h => F22 (ls (by decide) h), fun h => F23 (ls (by decide) h), fun h => F24 (ls (by decide) h), fun h => F25 (ls (by decide) h), fun h => F26 (ls (by decide) h), fun h => F27 (ls (by decide) h), fun h => F28 (ls (by decide) h), fun h => F29 (ls (by decide) h), fun h => F30 (ls (by decide) h), fun h => F31 (ls (by decide) h), fun h => F32 (ls (by decide) h), fun h => F33 (ls (by decide) h), fun h => F34 (ls (by decide) h), fun h => F35 (ls (by decide) h), fun h => F36 (ls (by decide) h), fun h => F37 (ls (by decide) h), fun h => F38 (ls (by decide) h), fun h => F39 (ls (by decide) h), fun h => F40 (ls (by decide) h), fun h => F41 (ls (by decide) h), fun h => F42 (ls (by decide) h), fun h => F43 (ls (by decide) h), fun h => F44 (ls (by decide) h), fun h => F45 (ls (by decide) h), fun h => F46 (ls (by decide) h), fun h => F47 (ls (by decide) h), fun h => F48 (ls (by decide) h), F49, F50, F51, F52, F53⟩
    · simp only [List.getElem?_toArray, List.getElem?_cons_zero, List.getElem?_cons_succ, Option.some.injEq] at ho
      subst ho
      obtain rfl := F10 (hd ⟨10, .data⟩ (by simp) rfl)
      obtain rfl := F8 (hd ⟨8, .guard⟩ (by simp) rfl)
      refine wpOp_step rfl (fun K hK => ?_)
      go_simp
      refine hK _ _ ?_
      exact ⟨_, _, _, _, _, _, _, _, _, _, _, _, _, _, _, _, _, _, _, _, _, _, _, _, _, _, _, _, _, _, _, _, _, _, _, _, _, _, _, _, _, _, _, _, _, _, _, _, _, rfl, fun h => F0 (ls (by decide) h), fun h => F1 (ls (by decide) h), fun h => F2 (ls (by decide) h), fun h => F3 (ls (by decide) h), fun h => F4 (ls (by decide) h), fun h => F5 (ls (by decide) h), fun h => F6 (ls (by decide) h), fun h => F7 (ls (by decide) h), fun h => F8 (ls (by decide) h), fun h => F9 (ls (by decide) h), fun h => F10 (ls (by decide) h), fun _ => rfl, fun h => F12 (ls (by decide) h), fun h => F13 (ls (by decide) h), fun h => F14 (ls (by decide) h), fun h => F15 (ls (by decide) h), fun h => F16 (ls (by decide) h), fun h => F17 (ls (by decide) h), fun h => F18 (ls (by decide) h), fun h => F19 (ls (by decide) h), fun h => F20 (ls (by decide) h), fun h => F21 (ls (by decide) h), fun h => F22 (ls (by decide) h), fun h => F23 (ls (by decide) h), fun h => F24 (ls (by decide) h), fun h => F25 (ls (by decide) h), fun h => F26 (ls (by decide) h), fun h => F27 (ls (by decide) h), fun h => F28 (ls (by decide) h), fun h => F29 (ls (by decide) h), fun h => F30 (ls (by decide) h), fun h => F31 (ls (by decide) h), fun h => F32 (ls (by decide) h), fun h => F33 (ls (by decide) h), fun h => F34 (ls (by decide) h), fun h => F35 (ls (by decide) h), fun h => F36 (ls (by decide) h), fun h => F37 (ls (by decide) h), fun h => F38 (ls (by decide) h), fun h => F39 (ls (by decide) h), fun h => F40 (ls (by decide) h), fun h => F41 (ls (by decide) h), fun h => F42 (ls (by decide) h), fun h => F43 (ls (by decide) h), fun h => F44 (ls (by decide) h), fun h => F45 (ls (by decide) h), fun h => F46 (ls (by decide) h), fun h => F47 (ls (by decide) h), fun h => F48 (ls (by decide) h), F49, F50, F51, F52, F53⟩
    · simp only [List.getElem?_toArray, List.getElem?_cons_zero, List.getElem?_cons_succ, Option.some.injEq] at ho
      subst ho
      obtain rfl := F8 (hd ⟨8, .data⟩ (by simp) rfl)
      obtain rfl := F11 (hd ⟨11, .data⟩ (by simp) rfl)
      refine wpOp_step rfl (fun K hK => ?_)
      go_simp
      refine hK _ _ ?_
      exact ⟨_, _, _, _, _, _, _, _, _, _, _, _, _, _, _, _, _, _, _, _, _, _, _, _, _, _, _, _, _, _, _, _, _, _, _, _, _, _, _, _, _, _, _, _, _, _, _, _, _, rfl, fun h => F0 (ls (by decide) h), fun h => F1 (ls (by decide) h), fun h => F2 (ls (by decide) h), fun h => F3 (ls (by decide) h), fun h => F4 (ls (by decide) h), fun h => F5 (ls (by decide) h), fun h => F6 (ls (by decide) h), fun h => F7 (ls (by decide) h), fun h => F8 (ls (by decide) h), fun h => F9 (ls (by decide) h), fun h => F10 (ls (by decide) h), fun h => F11 (ls (by decide) h), fun _ => rfl, fun h => F13 (ls (by decide) h), fun h => F14 (ls (by decide) h), fun h => F15 (ls (by decide) h), fun h => F16 (ls (by decide) h), fun h => F17 (ls (by decide) h), fun h => F18 (ls (by decide) h), fun h => F19 (ls (by decide) h), fun h => F20 (ls (by decide) h), fun h => F21 (ls (by decide) h), fun h => F22 (ls (by decide) h), fun h => F23 (ls (by decide) h), fun h => F24 (ls (by decide) h), fun h => F25 (ls (by decide) h), fun h => F26 (ls (by decide) h), fun h => F27 (ls (by decide) h), fun h => F28 (ls (by decide) h), fun h => F29 (ls (by decide) h), fun h => F30 (ls (by decide) h), fun h => F31 (ls (by decide) h), fun h => F32 (ls (by decide) h), fun h => F33 (ls (by decide) h), fun h => F34 (ls (by decide) h), fun h => F35 (ls (by decide) h), fun h => F36 (ls (by decide) h), fun h => F37 (ls (by decide) h), fun h => F38 (ls (by decide) h), fun h => F39 (ls (by decide) h), fun h => F40 (ls (by decide) h), fun h => F41 (ls (by decide) h), fun h => F42 (ls (by decide) h), fun h => F43 (ls (by decide) h), fun h => F44 (ls (by decide) h), fun h => F45 (ls (by decide) h), fun h => F46 (ls (by decide) h), fun h => F47 (ls (by decide) h), fun h => F48 (ls (by decide) h), F49, F50, F51, F52, F53⟩
    · simp only [List.getElem?_toArray, List.getElem?_cons_zero, List.getElem?_cons_succ, Option.some.injEq] at ho
      subst ho
      obtain rfl := F12 (hd ⟨12, .data⟩ (by simp) rfl)
      refine wpOp_step rfl (fun K hK => ?_)
      go_simp
      refine hK _ _ ?_
      exact ⟨_, _, _, _, _, _, _, _, _, _, _, _, _, _, _, _, _, _, _, _, _, _, _, _, _, _, _, _, _, _, _, _, _, _, _, _, _, _, _, _, _, _, _, _, _, _, _, _, _, rfl, fun h => F0 (ls (by decide) h), fun h => F1 (ls (by decide) h), fun h => F2 (ls (by decide) h), fun h => F3 (ls (by decide) h), fun h => F4 (ls (by decide) h), fun h => F5 (ls (by decide) h), fun h => F6 (ls (by decide) h), fun h => F7 (ls (by decide) h), fun h => F8 (ls (by decide) h), fun h => F9 (ls (by decide) h), fun h => F10 (ls (by decide) h), fun h => F11 (ls (by decide) h), fun h => F12 (ls (by decide) h), fun _ => rfl, fun h => F14 (ls (by decide) h), fun h => F15 (ls (by decide) h), fun h => F16 (ls (by decide) h), fun h => F17 (ls (by decide) h), fun h => F18 (ls (by decide) h), fun h => F19 (ls (by decide) h), fun h => F20 (ls (by decide) h), fun h => F21 (ls (by decide) h), fun h => F22 (ls (by decide) h), fun h => F23 (ls (by decide) h), fun h => F24 (ls (by decide) h), fun h => F25 (ls (by decide) h), fun h => F26 (ls (by decide) h), fun h => F27 (ls (by decide) h), fun h => F28 (ls (by decide) h), fun h => F29 (ls (by decide) h), fun h => F30 (ls (by decide) h), fun h => F31 (ls (by decide) h), fun h => F32 (ls (by decide) h), fun h => F33 (ls (by decide) h), fun h => F34 (ls (by decide) h), fun h => F35 (ls (by decide) h), fun h => F36 (ls (by decide) h), fun h => F37 (ls (by decide) h), fun h => F38 (ls (by decide) h), fun h => F39 (ls (by decide) h), fun h => F40 (ls (by decide) h), fun h => F41 (ls (by decide) h), fun h => F42 (ls (by decide) h), fun h => F43 (ls (by decide) h), fun h => F44 (ls (by decide) h), fun h => F45 (ls (by decide) h), fun h => F46 (ls (by decide) h), fun h => F47 (ls (by decide) h), fun h => F48 (ls (by decide) h), F49, F50, F51, F52, F53⟩
    · simp only [List.getElem?_toArray, List.getElem?_cons_zero, List.getElem?_cons_succ, Option.some.injEq] at ho
      subst ho
      obtain rfl := F13 (hd ⟨13, .guard⟩ (by simp) rfl)
      have O'1 := F51; obtain ⟨_, _, _, _⟩ := O'1
      refine wpOp_step rfl (fun K hK => ?_)
      go_simp
      refine hK _ _ ?_
      exact ⟨_, _, _, _, _, _, _, _, _, _, _, _, _, _, _, _, _, _, _, _, _, _, _, _, _, _, _, _, _, _, _, _, _, _, _, _, _, _, _, _, _, _, _, _, _, _, _, _, _, rfl, fun h => F0 (ls (by decide) h), fun h => F1 (ls (by decide) h), fun h => F2 (ls (by decide) h), fun h => F3 (ls (by decide) h), fun h => F4 (ls (by decide) h), fun h => F5 (ls (by decide) h), fun h => F6 (ls (by decide) h), fun h => F7 (ls (by decide) h), fun h => F8 (ls (by decide) h), fun h => F9 (ls (by decide) h), fun h => F10 (ls (by decide) h), fun h => F11 (ls (by decide) h), fun h => F12 (ls (by decide) h), fun h => F13 (ls (by decide) h), fun _ => rfl, fun h => F15 (ls (by decide) h), fun h => F16 (ls (by decide) h), fun h => F17 (ls (by decide) h), fun h => F18 (ls (by decide) h), fun h => F19 (ls (by decide) h), fun h => F20 (ls (by decide) h), fun h => F21 (ls (by decide) h), fun h => F22 (ls (by decide) h), fun h => F23 (ls (by decide) h), fun h => F24 (ls (by decide) h), fun h => F25 (ls (by decide) h), fun h => F26 (ls (by decide) h), fun h => F27 (ls (by decide) h), fun h => F28 (ls (by decide) h), fun h => F29 (ls (by decide) h), fun h => F30 (ls (by decide) h), fun h => F31 (ls (by decide) h), fun h => F32 (ls (by decide) h), fun h => F33 (ls (by decide) h), fun h => F34 (ls (by decide) h), fun h => F35 (ls (by decide) h), fun h => F36 (ls (by decide) h), fun h => F37 (ls (by decide) h), fun h => F38 (ls (by decide) h), fun h => F39 (ls (by decide) h), fun h => F40 (ls (by decide) h), fun h => F41 (ls (by decide) h), fun h => F42 (ls (by decide) h), fun h => F43 (ls (by decide) h), fun h => F44 (ls (by decide) h), fun h => F45 (ls (by decide) h), fun h => F46 (ls (by decide) h), fun h => F47 (ls (by decide) h), fun h => F48 (ls (by decide) h), F49, F50, F51, F52, F53⟩
    · simp only [List.getElem?_toArray, List.getElem?_cons_zero, List.getElem?_cons_succ, Option.some.injEq] at ho
      subst ho
      obtain rfl := F13 (hd ⟨13, .guard⟩ (by simp) rfl)
      have O'0 := F50; obtain ⟨_, _, _, _⟩ := O'0
      refine wpOp_step rfl (fun K hK => ?_)
      go_simp
      refine hK _ _ ?_
      exact ⟨_, _, _, _, _, _, _, _, _, _, _, _, _, _, _, _, _, _, _, _, _, _, _, _, _, _, _, _, _, _, _, _, _, _, _, _, _, _, _, _, _, _, _, _, _, _, _, _, _, rfl, fun h => F0 (ls (by decide) h), fun h => F1 (ls (by decide) h), fun h => F2 (ls (by decide) h), fun h => F3 (ls (by decide) h), fun h => F4 (ls (by decide) h), fun h => F5 (ls (by decide) h), fun h => F6 (ls (by decide) h), fun h => F7 (ls (by decide) h), fun h => F8 (ls (by decide) h), fun h => F9 (ls (by decide) h), fun h => F10 (ls (by decide) h), fun h => F11 (ls (by decide) h), fun h => F12 (ls (by decide) h), fun h => F13 (ls (by decide) h), fun h => F14 (ls (by decide) h), fun _ => rfl, fun h => F16 (ls (by decide) h), fun h => F17 (ls (by decide) h), fun h => F18 (ls (by decide) h), fun h => F19 (ls (by decide) h), fun h => F20 (ls (by decide) h), fun h => F21 (ls (by decide) h), fun h => F22 (ls (by decide) h), fun h => F23 (ls (by decide) h), fun h => F24 (ls (by decide) h), fun h => F25 (ls (by decide) h), fun h => F26 (ls (by decide) h), fun h => F27 (ls (by decide) h), fun h => F28 (ls (by decide) h), fun h => F29 (ls (by decide) h), fun h => F30 (ls (by decide) h), fun h => F31 (ls (by decide) h), fun h => F32 (ls (by decide) h), fun h => F33 (ls (by decide) h), fun h => F34 (ls (by decide) h), fun h => F35 (ls (by decide) h), fun h => F36 (ls (by decide) h), fun h => F37 (ls (by decide) h), fun h => F38 (ls (by decide) h), fun h => F39 (ls (by decide) h), fun h => F40 (ls (by decide) h), fun h => F41 (ls (by decide) h), fun h => F42 (ls (by decide) h), fun h => F43 (ls (by decide) h), fun h => F44 (ls (by decide) h), fun h => F45 (ls (by decide) h), fun h => F46 (ls (by decide) h), fun h => F47 (ls (by decide) h), fun h => F48 (ls (by decide) h), F49, F50, F51, F52, F53⟩
    · simp only [List.getElem?_toArray, List.getElem?_cons_zero, List.getElem?_cons_succ, Option.some.injEq] at ho
      subst ho
      obtain rfl := F14 (hd ⟨14, .data⟩ (by simp) rfl)
      obtain rfl := F15 (hd ⟨15, .data⟩ (by simp) rfl)
      obtain rfl := F13 (hd ⟨13, .guard⟩ (by simp) rfl)
      refine wpOp_step rfl (fun K hK => ?_)
      go_simp
      go_at_call 25; refine (K1.out.call _).mono ?_; rintro e w' ⟨rfl, hb⟩
      refine hK _ _ ?_
      exact ⟨_, _, _, _, _, _, _, _, _, _, _, _, _, _, _, _, _, _, _, _, _, _, _, _, _, _, _, _, _, _, _, _, _, _, _, _, _, _, _, _, _, _, _, _, _, _, _, _, _, rfl, fun h => F0 (ls (by decide) h), fun h => F1 (ls (by decide) h), fun h => F2 (ls (by decide) h), fun h => F3 (ls (by decide) h), fun h => F4 (ls (by decide) h), fun h => F5 (ls (by decide) h), fun h => F6 (ls (by decide) h), fun h => F7 (ls (by decide) h), fun h => F8 (ls (by decide) h), fun h => F9 (ls (by decide) h), fun h => F10 (ls (by decide) h), fun h => F11 (ls (by decide) h), fun h => F12 (ls (by decide) h), fun h => F13 (ls (by decide) h), fun h => F14 (ls (by decide) h), fun h => F15 (ls (by decide) h), fun _ => rfl, fun h => F17 (ls (by decide) h), fun h => F18 (ls (by decide) h), fun h => F19 (ls (by decide) h), fun h => F20 (ls (by decide) h), fun h => F21 (ls (by decide) h), fun h => F22 (ls (by decide) h), fun h => F23 (ls (by decide) h), fun h => F24 (ls (by decide) h), fun h => F25 (ls (by decide) h), fun h => F26 (ls (by decide) h), fun h => F27 (ls (by decide) h), fun h => F28 (ls (by decide) h), fun h => F29 (ls (by decide) h), fun h => F30 (ls (by decide) h), fun h => F31 (ls (by decide) h), fun h => F32 (ls (by decide) h), fun h => F33 (ls (by decide) h), fun h => F34 (ls (by decide) h), fun h => F35 (ls (by decide) h), fun h => F36 (ls (by decide) h), fun h => F37 (ls (by decide) h), fun h => F38 (ls (by decide) h), fun h => F39 (ls (by decide) h), fun h => F40 (ls (by decide) h), fun h => F41 (ls (by decide) h), fun h => F42 (ls (by decide) h), fun h => F43 (ls (by decide) h), fun h => F44 (ls (by decide) h), fun h => F45 (ls (by decide) h), fun h => F46 (ls (by decide) h), fun h => F47 (ls (by decide) h), fun h => F48 (ls (by decide) h), bt F49 hb, (F50).call hb, (F51).call hb, (F52).call hb, (F53).call hb⟩
    · simp only [List.getElem?_toArray, List.getElem?_cons_zero, List.getElem?_cons_succ, Option.some.injEq] at ho
      subst ho
      obtain rfl := F16 (hd ⟨16, .data⟩ (by simp) rfl)
      obtain rfl := F13 (hd ⟨13, .guard⟩ (by simp) rfl)
      refine wpOp_step rfl (fun K hK => ?_)
      go_simp
      refine hK _ _ ?_
      exact ⟨_, _, _, _, _, _, _, _, _, _, _, _, _, _, _, _, _, _, _, _, _, _, _, _, _, _, _, _, _, _, _, _, _, _, _, _, _, _, _, _, _, _, _, _, _, _, _, _, _, rfl, fun h => F0 (ls (by decide) h), fun h => F1 (ls (by decide) h), fun h => F2 (ls (by decide) h), fun h => F3 (ls (by decide) h), fun h => F4 (ls (by decide) h), fun h => F5 (ls (by decide) h), fun h => F6 (ls (by decide) h), fun h => F7 (ls (by decide) h), fun h => F8 (ls (by decide) h), fun h => F9 (ls (by decide) h), fun h => F10 (ls (by decide) h), fun h => F11 (ls (by decide) h), fun h => F12 (ls (by decide) h), fun h => F13 (ls (by decide) h), fun h => F14 (ls (by decide) h), fun h => F15 (ls (by decide) h), fun h => F16 (ls (by decide) h), fun _ => rfl, fun h => F18 (ls (by decide) h), fun h => F19 (ls (by decide) h), fun h => F20 (ls (by decide) h), fun h => F21 (ls (by decide) h), fun h => F22 (ls (by decide) h), fun h => F23 (ls (by decide) h), fun h => F24 (ls (by decide) h), fun h => F25 (ls (by decide) h), fun h => F26 (ls (by decide) h), fun h => F27 (ls (by decide) h), fun h => F28 (ls (by decide) h), fun h => F29 (ls (by decide) h), fun h => F30 (ls (by decide) h), fun h => F31 (ls (by decide) h), fun h => F32 (ls (by decide) h), fun h => F33 (ls (by decide) h), fun h => F34 (ls (by decide) h), fun h => F35 (ls (by decide) h), fun h => F36 (ls (by decide) h), fun h => F37 (ls (by decide) h), fun h => F38 (ls (by decide) h), fun h => F39 (ls (by decide) h), fun h => F40 (ls (by decide) h), fun h => F41 (ls (by decide) h), fun h => F42 (ls (by decide) h), fun h => F43 (ls (by decide) h), fun h => F44 (ls (by decide) h), fun h => F45 (ls (by decide) h), fun h => F46 (ls (by decide) h), fun h => F47 (ls (by decide) h), fun h => F48 (ls (by decide) h), F49, F50, F51, F52, F53⟩
    · simp only [List.getElem?_toArray, List.getElem?_cons_zero, List.getElem?_cons_succ, Option.some.injEq] at ho
      subst ho
      obtain rfl := F13 (hd ⟨13, .data⟩ (by simp) rfl)
      obtain rfl := F17 (hd ⟨17, .data⟩ (by simp) rfl)
      refine wpOp_step rfl (fun K hK => ?_)
      go_simp
      refine hK _ _ ?_
      exact ⟨_, _, _, _, _, _, _, _, _, _, _, _, _, _, _, _, _, _, _, _, _, _, _, _, _, _, _, _, _, _, _, _, _, _, _, _, _, _, _, _, _, _, _, _, _, _, _, _, _, rfl, fun h => F0 (ls (by decide) h), fun h => F1 (ls (by decide) h), fun h => F2 (ls (by decide) h), fun h => F3 (ls (by decide) h), fun h => F4 (ls (by decide) h), fun h => F5 (ls (by decide) h), fun h => F6 (ls (by decide) h), fun h => F7 (ls (by decide) h), fun h => F8 (ls (by decide) h), fun h => F9 (ls (by decide) h), fun h => F10 (ls (by decide) h), fun h => F11 (ls (by decide) h), fun h => F12 (ls (by decide) h), fun h => F13 (ls (by decide) h), fun h => F14 (ls (by decide) h), fun h => F15 (ls (by decide) h), fun h => F16 (ls (by decide) h), fun h => F17 (ls (by decide) h), fun _ => rfl, fun h => F19 (ls (by decide) h), fun h => F20 (ls (by decide) h), fun h => F21 (ls (by decide) h), fun h => F22 (ls (by decide) h), fun h => F23 (ls (by decide) h), fun h => F24 (ls (by decide) h), fun h => F25 (ls (by decide) h), fun h => F26 (ls (by decide) h), fun h => F27 (ls (by decide) h), fun h => F28 (ls (by decide) h), fun h => F29 (ls (by decide) h), fun h => F30 (ls (by decide) h), fun h => F31 (ls (by decide) h), fun h => F32 (ls (by decide) h), fun h => F33 (ls (by decide) h), fun h => F34 (ls (by decide) h), fun h => F35 (ls (by decide) h), fun h => F36 (ls (by decide) h), fun h => F37 (ls (by decide) h), fun h => F38 (ls (by decide) h), fun h => F39 (ls (by decide) h), fun h => F40 (ls (by decide) h), fun h => F41 (ls (by decide) h), fun h => F42 (ls (by decide) h), fun h => F43 (ls (by decide) h), fun h => F44 (ls (by decide) h), fun h => F45 (ls (by decide) h), fun h => F46 (ls (by decide) h), fun h => F47 (ls (by decide) h), fun h => F48 (ls (by decide) h), F49, F50, F51, F52, F53⟩
    · simp only [List.getElem?_toArray, List.getElem?_cons_zero, List.getElem?_cons_succ, Option.some.injEq] at ho
      subst ho
      obtain rfl := F18 (hd ⟨18, .data⟩ (by simp) rfl)
      refine wpOp_step rfl (fun K hK => ?_)
      go_simp
      refine hK _ _ ?_
      exact ⟨_, _, _, _, _, _, _, _, _, _, _, _, _, _, _, _, _, _, _, _, _, _, _, _, _, _, _, _, _, _, _, _, _, _, _, _, _, _, _, _, _, _, _, _, _, _, _, _, _, rfl, fun h => F0 (ls (by decide) h), fun h => F1 (ls (by decide) h), fun h => F2 (ls (by decide) h), fun h => F3 (ls (by decide) h), fun h => F4 (ls (by decide) h), fun h => F5 (ls (by decide) h), fun h => F6 (ls (by decide) h), fun h => F7 (ls (by decide) h), fun h => F8 (ls (by decide) h), fun h => F9 (ls (by decide) h), fun h => F10 (ls (by decide) h), fun h => F11 (ls (by decide) h), fun h => F12 (ls (by decide) h), fun h => F13 (ls (by decide) h), fun h => F14 (ls (by decide) h), fun h => F15 (ls (by decide) h), fun h => F16 (ls (by decide) h), fun h => F17 (ls (by decide) h), fun h => F18 (ls (by decide) h), fun _ => rfl, fun h => F20 (ls (by decide) h), fun h => F21 (ls (by decide) h), fun h => F22 (ls (by decide) h), fun h => F23 (ls (by decide) h), fun h => F24 (ls (by decide) h), fun h => F25 (ls (by decide) h), fun h => F26 (ls (by decide) h), fun h => F27 (ls (by decide) h), fun h => F28 (ls (by decide) h), fun h => F29 (ls (by decide) h), fun h => F30 (ls (by decide) h), fun h => F31 (ls (by decide) h), fun h => F32 (ls (by decide) h), fun h => F33 (ls (by decide) h), fun h => F34 (ls (by decide) h), fun h => F35 (ls (by decide) h), fun h => F36 (ls (by decide) h), fun h => F37 (ls (by decide) h), fun h => F38 (ls (by decide) h), fun h => F39 (ls (by decide) h), fun h => F40 (ls (by decide) h), fun h => F41 (ls (by decide) h), fun h => F42 (ls (by decide) h), fun h => F43 (ls (by decide) h), fun h => F44 (ls (by decide) h), fun h => F45 (ls (by decide) h), fun h => F46 (ls (by decide) h), fun h => F47 (ls (by decide) h), fun h => F48 (ls (by decide) h), F49, F50, F51, F52, F53⟩
    · simp only [List.getElem?_toArray, List.getElem?_cons_zero, List.getElem?_cons_succ, Option.some.injEq] at ho
      subst ho
      obtain rfl := F19 (hd ⟨19, .guard⟩ (by simp) rfl)
      have O'2 := F52; obtain ⟨_, _, _, _⟩ := O'2
      refine wpOp_step rfl (fun K hK => ?_)
      go_simp
      refine hK _ _ ?_
      exact ⟨_, _, _, _, _, _, _, _, _, _, _, _, _, _, _, _, _, _, _, _, _, _, _, _, _, _, _, _, _, _, _, _, _, _, _, _, _, _, _, _, _, _, _, _, _, _, _, _, _, rfl, fun h => F0 (ls (by decide) h), fun h => F1 (ls (by decide) h), fun h => F2 (ls (by decide) h), fun h => F3 (ls (by decide) h), fun h => F4 (ls (by decide) h), fun h => F5 (ls (by decide) h), fun h => F6 (ls (by decide) h), fun h => F7 (ls (by decide) h), fun h => F8 (ls (by decide) h), fun h => F9 (ls (by decide) h), fun h => F10 (ls (by decide) h), fun h => F11 (ls (by decide) h), fun h => F12 (ls (by decide) h), fun h => F13 (ls (by decide) h), fun h => F14 (ls (by decide) h), fun h => F15 (ls (by decide) h), fun h => F16 (ls (by decide) h), fun h => F17 (ls (by decide) h), fun h => F18 (ls (by decide) h), fun h => F19 (ls (by decide) h), fun _ => rfl, fun h => F21 (ls (by decide) h), fun h => F22 (ls (by decide) h), fun h => F23 (ls (by decide) h), fun h => F24 (ls (by decide) h), fun h => F25 (ls (by decide) h), fun h => F26 (ls (by decide) h), fun h => F27 (ls (by decide) h), fun h => F28 (ls (by decide) h), fun h => F29 (ls (by decide) h), fun h => F30 (ls (by decide) h), fun h => F31 (ls (by decide) h), fun h => F32 (ls (by decide) h), fun h => F33 (ls (by decide) h), fun h => F34 (ls (by decide) h), fun h => F35 (ls (by decide) h), fun h => F36 (ls (by decide) h), fun h => F37 (ls (by decide) h), fun h => F38 (ls (by decide) h), fun h => F39 (ls (by decide) h), fun h => F40 (ls (by decide) h), fun h => F41 (ls (by decide) h), fun h => F42 (ls (by decide) h), fun h => F43 (ls (by decide) h), fun h => F44 (ls (by decide) h), fun h => F45 (ls (by decide) h), fun h => F46 (ls (by decide) h), fun h => F47 (ls (by decide) h), fun h => F48 (ls (by decide) h), F49, F50, F51, F52, F53⟩
    · simp only [List.getElem?_toArray, List.getElem?_cons_zero, List.getElem?_cons_succ, Option.some.injEq] at ho
      subst ho
      obtain rfl := F19 (hd ⟨19, .guard⟩ (by simp) rfl)
      have O'0 := F50; obtain ⟨_, _, _, _⟩ := O'0
      refine wpOp_step rfl (fun K hK => ?_)
      go_simp
      refine hK _ _ ?_
      exact ⟨_, _, _, _, _, _, _, _, _, _, _, _, _, _, _, _, _, _, _, _, _, _, _, _, _, _, _, _, _, _, _, _, _, _, _, _, _, _, _, _, _, _, _, _, _, _, _, _, _, rfl, fun h => F0 (ls (by decide) h), fun h => F1 (ls (by decide) h), fun h => F2 (ls (by decide) h), fun h => F3 (ls (by decide) h), fun h => F4 (ls (by decide) h), fun h => F5 (ls (by decide) h), fun h => F6 (ls (by decide) h), fun h => F7 (ls (by decide) h), fun h => F8 (ls (by decide) h), fun h => F9 (ls (by decide) h), fun h => F10 (ls (by decide) h), fun h => F11 (ls (by decide) h), fun h => F12 (ls (by decide) h), fun h => F13 (ls (by decide) h), fun h => F14 (ls (by decide) h), fun h => F15 (ls (by decide) h), fun h => F16 (ls (by decide) h), fun h => F17 (ls (by decide) h), fun h => F18 (ls (by decide) h), fun h => F19 (ls (by decide) h), fun h => F20 (ls (by decide) h), fun _ => rfl, fun h => F22 (ls (by decide) h), fun h => F23 (ls (by decide) h), fun h => F24 (ls (by decide) h), fun h => F25 (ls (by decide) h), fun h => F26 (ls (by decide) h), fun h => F27 (ls (by decide) h), fun h => F28 (ls (by decide) h), fun h => F29 (ls (by decide) h), fun h => F30 (ls (by decide) h), fun h => F31 (ls (by decide) h), fun h => F32 (ls (by decide) h), fun h => F33 (ls (by decide) h), fun h => F34 (ls (by decide) h), fun h => F35 (ls (by decide) h), fun h => F36 (ls (by decide) h), fun h => F37 (ls (by decide) h), fun h => F38 (ls (by decide) h), fun h => F39 (ls (by decide) h), fun h => F40 (ls (by decide) h), fun h => F41 (ls (by decide) h), fun h => F42 (ls (by decide) h), fun h => F43 (ls (by decide) h), fun h => F44 (ls (by decide) h), fun h => F45 (ls (by decide) h), fun h => F46 (ls (by decide) h), fun h => F47 (ls (by decide) h), fun h => F48 (ls (by decide) h), F49, F50, F51, F52, F53⟩
    · simp only [List.getElem?_toArray, List.getElem?_cons_zero, List.getElem?_cons_succ, Option.some.injEq] at ho
      subst ho
      obtain rfl := F20 (hd ⟨20, .data⟩ (by simp) rfl)
      obtain rfl := F21 (hd ⟨21, .data⟩ (by simp) rfl)
      obtain rfl := F19 (hd ⟨19, .guard⟩ (by simp) rfl)
      refine wpOp_step rfl (fun K hK => ?_)
      go_simp
      go_at_call 25; refine (K2.out.call _).mono ?_; rintro e w' ⟨rfl, hb⟩
      refine hK _ _ ?_
      exact ⟨_, _, _, _, _, _, _, _, _, _, _, _, _, _, _, _, _, _, _, _, _, _, _, _, _, _, _, _, _, _, _, _, _, _, _, _, _, _, _, _, _, _, _, _, _, _, _, _, _, rfl, fun h => F0 (ls (by decide) h), fun h => F1 (ls (by decide) h), fun h => F2 (ls (by decide) h), fun h => F3 (ls (by decide) h), fun h => F4 (ls (by decide) h), fun h => F5 (ls (by decide) h), fun h => F6 (ls (by decide) h), fun h => F7 (ls (by decide) h), fun h => F8 (ls (by decide) h), fun h => F9 (ls (by decide) h), fun h => F10 (ls (by decide) h), fun h => F11 (ls (by decide) h), fun h => F12 (ls (by decide) h), fun h => F13 (ls (by decide) h), fun h => F14 (ls (by decide) h), fun h => F15 (ls (by decide) h), fun h => F16 (ls (by decide) h), fun h => F17 (ls (by decide) h), fun h => F18 (ls (by decide) h), fun h => F19 (ls (by decide) h), fun h => F20 (ls (by decide) h), fun h => F21 (ls (by decide) h), fun _ => rfl, fun h => F23 (ls (by decide) h), fun h => F24 (ls (by decide) h), fun h => F25 (ls (by decide) h), fun h => F26 (ls (by decide) h), fun h => F27 (ls (by decide) h), fun h => F28 (ls (by decide) h), fun h => F29 (ls (by decide) h), fun h => F30 (ls (by decide) h), fun h => F31 (ls (by decide) h), fun h => F32 (ls (by decide) h), fun h => F33 (ls (by decide) h), fun h => F34 (ls (by decide) h), fun h => F35 (ls (by decide) h), fun h => F36 (ls (by decide) h), fun h => F37 (ls (by decide) h), fun h => F38 (ls (by decide) h), fun h => F39 (ls (by decide) h), fun h => F40 (ls (by decide) h), fun h => F41 (ls (by decide) h), fun h => F42 (ls (by decide) h), fun h => F43 (ls (by decide) h), fun h => F44 (ls (by decide) h), fun h => F45 (ls (by decide) h), fun h => F46 (ls (by decide) h), fun h => F47 (ls (by decide) h), fun h => F48 (ls (by decide) h), bt F49 hb, (F50).call hb, (F51).call hb, (F52).call hb, (F53).call hb⟩
    · simp only [List.getElem?_toArray, List.getElem?_cons_zero, List.getElem?_cons_succ, Option.some.injEq] at ho
      subst ho
      obtain rfl := F22 (hd ⟨22, .data⟩ (by simp) rfl)
      obtain rfl := F19 (hd ⟨19, .guard⟩ (by simp) rfl)
      refine wpOp_step rfl (fun K hK => ?_)
      go_simp
      refine hK _ _ ?_
      exact ⟨_, _, _, _, _, _, _, _, _, _, _, _, _, _, _, _, _, _, _, _, _, _, _, _, _, _, _, _, _, _, _, _, _, _, _, _, _, _, _, _, _, _, _, _, _, _, _, _, _, rfl, fun h => F0 (ls (by decide) h), fun h => F1 (ls (by decide) h), fun h => F2 (ls (by decide) h), fun h => F3 (ls (by decide) h), fun h => F4 (ls (by decide) h), fun h => F5 (ls (by decide) h), fun h => F6 (ls (by decide) h), fun h => F7 (ls (by decide) h), fun h => F8 (ls (by decide) h), fun h => F9 (ls (by decide) h), fun h => F10 (ls (by decide) h), fun h => F11 (ls (by decide) h), fun h => F12 (ls (by decide) h), fun h => F13 (ls (by decide) h), fun h => F14 (ls (by decide) h), fun h => F15 (ls (by decide) h), fun h => F16 (ls (by decide) h), fun h => F17 (ls (by decide) h), fun h => F18 (ls (by decide) h), fun h => F19 (ls (by decide) h), fun h => F20 (ls (by decide) h), fun h => F21 (ls (by decide) h), fun h => F22 (ls (by decide) h), fun _ => rfl, fun h => F24 (ls (by decide) h), fun h => F25 (ls (by decide) h), fun h => F26 (ls (by decide) h), fun h => F27 (ls (by decide) h), fun h => F28 (ls (by decide) h), fun h => F29 (ls (by decide) h), fun h => F30 (ls (by decide) h), fun h => F31 (ls (by decide) h), fun h => F32 (ls (by decide) h), fun h => F33 (ls (by decide) h), fun h => F34 (ls (by decide) h), fun h => F35 (ls (by decide) h), fun h => F36 (ls (by decide) h), fun h => F37 (ls (by decide) h), fun h => F38 (ls (by decide) h), fun h => F39 (ls (by decide) h), fun h => F40 (ls (by decide) h), fun h => F41 (ls (by decide) h), fun h => F42 (ls (by decide) h), fun h => F43 (ls (by decide) h), fun h => F44 (ls (by decide) h), fun h => F45 (ls (by decide) h), fun h => F46 (ls (by decide) h), fun h => F47 (ls (by decide) h), fun h => F48 (ls (by decide) h), F49, F50, F51, F52, F53⟩
    · simp only [List.getElem?_toArray, List.getElem?_cons_zero, List.getElem?_cons_succ, Option.some.injEq] at ho
      subst ho
      obtain rfl := F19 (hd ⟨19, .data⟩ (by simp) rfl)
      obtain rfl := F23 (hd ⟨23, .data⟩ (by simp) rfl)
      refine wpOp_step rfl (fun K hK => ?_)
      go_simp
      refine hK _ _ ?_
      exact ⟨_, _, _, _, _, _, _, _, _, _, _, _, _, _, _, _, _, _, _, _, _, _, _, _, _, _, _, _, _, _, _, _, _, _, _, _, _, _, _, _, _, _, _, _, _, _, _, _, _, rfl, fun h => F0 (ls (by decide) h), fun h => F1 (ls (by decide) h), fun h => F2 (ls (by decide) h), fun h => F3 (ls (by decide) h), fun h => F4 (ls (by decide) h), fun h => F5 (ls (by decide) h), fun h => F6 (ls (by decide) h), fun h => F7 (ls (by decide) h), fun h => F8 (ls (by decide) h), fun h => F9 (ls (by decide) h), fun h => F10 (ls (by decide) h), fun h => F11 (ls (by decide) h), fun h => F12 (ls (by decide) h), fun h => F13 (ls (by decide) h), fun h => F14 (ls (by decide) h), fun h => F15 (ls (by decide) h), fun h => F16 (ls (by decide) h), fun h => F17 (ls (by decide) h), fun h => F18 (ls (by decide) h), fun h => F19 (ls (by decide) h), fun h => F20 (ls (by decide) h), fun h => F21 (ls (by decide) h), fun h => F22 (ls (by decide) h), fun h => F23 (ls (by decide) h), fun _ => rfl, fun h => F25 (ls (by decide) h), fun h => F26 (ls (by decide) h), fun h => F27 (ls (by decide) h), fun h => F28 (ls (by decide) h), fun h => F29 (ls (by decide) h), fun h => F30 (ls (by decide) h), fun h => F31 (ls (by decide) h), fun h => F32 (ls (by decide) h), fun h => F33 (ls (by decide) h), fun h => F34 (ls (by decide) h), fun h => F35 (ls (by decide) h), fun h => F36 (ls (by decide) h), fun h => F37 (ls (by decide) h), fun h => F38 (ls (by decide) h), fun h => F39 (ls (by decide) h), fun h => F40 (ls (by decide) h), fun h => F41 (ls (by decide) h), fun h => F42 (ls (by decide) h), fun h => F43 (ls (by decide) h), fun h => F44 (ls (by decide) h), fun h => F45 (ls (by decide) h), fun h => F46 (ls (by decide) h), fun h => F47 (ls (by decide) h), fun h => F48 (ls (by decide) h), F49, F50, F51, F52, F53⟩
    · simp only [List.getElem?_toArray, List.getElem?_cons_zero, List.getElem?_cons_succ, Option.some.injEq] at ho
      subst ho
      obtain rfl := F24 (hd ⟨24, .data⟩ (by simp) rfl)
      refine wpOp_step rfl (fun K hK => ?_)
      go_simp
      refine hK _ _ ?_
      exact ⟨_, _, _, _, _, _, _, _, _, _, _, _, _, _, _, _, _, _, _, _, _, _, _, _, _, _, _, _, _, _, _, _, _, _, _, _, _, _, _, _, _, _, _, _, _, _, _, _, _, rfl, fun h => F0 (ls (by decide) h), fun h => F1 (ls (by decide) h), fun h => F2 (ls (by decide) h), fun h => F3 (ls (by decide) h), fun h => F4 (ls (by decide) h), fun h => F5 (ls (by decide) h), fun h => F6 (ls (by decide) h), fun h => F7 (ls (by decide) h), fun h => F8 (ls (by decide) h), fun h => F9 (ls (by decide) h), fun h => F10 (ls (by decide) h), fun h => F11 (ls (by decide) h), fun h => F12 (ls (by decide) h), fun h => F13 (ls (by decide) h), fun h => F14 (ls (by decide) h), fun h => F15 (ls (by decide) h), fun h => F16 (ls (by decide) h), fun h => F17 (ls (by decide) h), fun h => F18 (ls (by decide) h), fun h => F19 (ls (by decide) h), fun h => F20 (ls (by decide) h), fun h => F21 (ls (by decide) h), fun h => F22 (ls (by decide) h), fun h => F23 (ls (by decide) h), fun h => F24 (ls (by decide) h), fun _ => rfl, fun h => F26 (ls (by decide) h), fun h => F27 (ls (by decide) h), fun h => F28 (ls (by decide) h), fun h => F29 (ls (by decide) h), fun h => F30 (ls (by decide) h), fun h => F31 (ls (by decide) h), fun h => F32 (ls (by decide) h), fun h => F33 (ls (by decide) h), fun h => F34 (ls (by decide) h), fun h => F35 (ls (by decide) h), fun h => F36 (ls (by decide) h), fun h => F37 (ls (by decide) h), fun h => F38 (ls (by decide) h), fun h => F39 (ls (by decide) h), fun h => F40 (ls (by decide) h), fun h => F41 (ls (by decide) h), fun h => F42 (ls (by decide) h), fun h => F43 (ls (by decide) h), fun h => F44 (ls (by decide) h), fun h => F45 (ls (by decide) h), fun h => F46 (ls (by decide) h), fun h => F47 (ls (by decide) h), fun h => F48 (ls (by decide) h), F49, F50, F51, F52, F53⟩
    · simp only [List.getElem?_toArray, List.getElem?_cons_zero, List.getElem?_cons_succ, Option.some.injEq] at ho
      subst ho
      obtain rfl := F25 (hd ⟨25, .guard⟩ (by simp) rfl)
      refine wpOp_step rfl (fun K hK => ?_)
      go_simp
      refine hK _ _ ?_
      exact ⟨_, _, _, _, _, _, _, _, _, _, _, _, _, _, _, _, _, _, _, _, _, _, _, _, _, _, _, _, _, _, _, _, _, _, _, _, _, _, _, _, _, _, _, _, _, _, _, _, _, rfl, fun h => F0 (ls (by decide) h), fun h => F1 (ls (by decide) h), fun h => F2 (ls (by decide) h), fun h => F3 (ls (by decide) h), fun h => F4 (ls (by decide) h), fun h => F5 (ls (by decide) h), fun h => F6 (ls (by decide) h), fun h => F7 (ls (by decide) h), fun h => F8 (ls (by decide) h), fun h => F9 (ls (by decide) h), fun h => F10 (ls (by decide) h), fun h => F11 (ls (by decide) h), fun h => F12 (ls (by decide) h), fun h => F13 (ls (by decide) h), fun h => F14 (ls (by decide) h), fun h => F15 (ls (by decide) h), fun h => F16 (ls (by decide) h), fun h => F17 (ls (by decide) h), fun h => F18 (ls (by decide) h), fun h => F19 (ls (by decide) h), fun h => F20 (ls (by decide) h), fun h => F21 (ls (by decide) h), fun h => F22 (ls (by decide) h), fun h => F23 (ls (by decide) h), fun h => F24 (ls (by decide) h), fun h => F25 (ls (by decide) h), fun _ => rfl, fun h => F27 (ls (by decide) h), fun h => F28 (ls (by decide) h), fun h => F29 (ls (by decide) h), fun h => F30 (ls (by decide) h), fun h => F31 (ls (by decide) h), fun h => F32 (ls (by decide) h), fun h => F33 (ls (by decide) h), fun h => F34 (ls (by decide) h), fun h => F35 (ls (by decide) h), fun h => F36 (ls (by decide) h), fun h => F37 (ls (by decide) h), fun h => F38 (ls (by decide) h), fun h => F39 (ls (by decide) h), fun h => F40 (ls (by decide) h), fun h => F41 (ls (by decide) h), fun h => F42 (ls (by decide) h), fun h => F43 (ls (by decide) h), fun h => F44 (ls (by decide) h), fun h => F45 (ls (by decide) h), fun h => F46 (ls (by decide) h), fun h => F47 (ls (by decide) h), fun h => F48 (ls (by decide) h), F49, F50, F51, F52, F53⟩
    · simp only [List.getElem?_toArray, List.getElem?_cons_zero, List.getElem?_cons_succ, Option.some.injEq] at ho
      subst ho
      obtain rfl := F26 (hd ⟨26, .data⟩ (by simp) rfl)
      obtain rfl := F25 (hd ⟨25, .guard⟩ (by simp) rfl)
      have O'2 := F52; obtain ⟨_, _, _, _⟩ := O'2
      refine wpOp_step rfl (fun K hK => ?_)
      go_simp
      refine hK _ _ ?_
      exact ⟨_, _, _, _, _, _, _, _, _, _, _, _, _, _, _, _, _, _, _, _, _, _, _, _, _, _, _, _, _, _, _, _, _, _, _, _, _, _, _, _, _, _, _, _, _, _, _, _, _, rfl, fun h => F0 (ls (by decide) h), fun h => F1 (ls (by decide) h), fun h => F2 (ls (by decide) h), fun h => F3 (ls (by decide) h), fun h => F4 (ls (by decide) h), fun h => F5 (ls (by decide) h), fun h => F6 (ls (by decide) h), fun h => F7 (ls (by decide) h), fun h => F8 (ls (by decide) h), fun h => F9 (ls (by decide) h), fun h => F10 (ls (by decide) h), fun h => F11 (ls (by decide) h), fun h => F12 (ls (by decide) h), fun h => F13 (ls (by decide) h), fun h => F14 (ls (by decide) h), fun h => F15 (ls (by decide) h), fun h => F16 (ls (by decide) h), fun h => F17 (ls (by decide) h), fun h => F18 (ls (by decide) h), fun h => F19 (ls (by decide) h), fun h => F20 (ls (by decide) h), fun h => F21 (ls (by decide) h), fun h => F22 (ls (by decide) h), fun h => F23 (ls (by decide) h), fun h => F24 (ls (by decide) h), fun h => F25 (ls (by decide) h), fun h => F26 (ls (by decide) h), fun _ => rfl, fun h => F28 (ls (by decide) h), fun h => F29 (ls (by decide) h), fun h => F30 (ls (by decide) h), fun h => F31 (ls (by decide) h), fun h => F32 (ls (by decide) h), fun h => F33 (ls (by decide) h), fun h => F34 (ls (by decide) h), fun h => F35 (ls (by decide) h), fun h => F36 (ls (by decide) h), fun h => F37 (ls (by decide) h), fun h => F38 (ls (by decide) h), fun h => F39 (ls (by decide) h), fun h => F40 (ls (by decide) h), fun h => F41 (ls (by decide) h), fun h => F42 (ls (by decide) h), fun h => F43 (ls (by decide) h), fun h => F44 (ls (by decide) h), fun h => F45 (ls (by decide) h), fun h => F46 (ls (by decide) h), fun h => F47 (ls (by decide) h), fun h => F48 (ls (by decide) h), F49, F50, F51, F52, F53⟩
    · simp only [List.getElem?_toArray, List.getElem?_cons_zero, List.getElem?_cons_succ, Option.some.injEq] at ho
      subst ho
      obtain rfl := F25 (hd ⟨25, .guard⟩ (by simp) rfl)
      refine wpOp_step rfl (fun K hK => ?_)
      go_simp
      refine hK _ _ ?_
      exact ⟨_, _, _, _, _, _, _, _, _, _, _, _, _, _, _, _, _, _, _, _, _, _, _, _, _, _, _, _, _, _, _, _, _, _, _, _, _, _, _, _, _, _, _, _, _, _, _, _, _, rfl, fun h => F0 (ls (by decide) h), fun h => F1 (ls (by decide) h), fun h => F2 (ls (by decide) h), fun h => F3 (ls (by decide) h), fun h => F4 (ls (by decide) h), fun h => F5 (ls (by decide) h), fun h => F6 (ls (by decide) h), fun h => F7 (ls (by decide) h), fun h => F8 (ls (by decide) h), fun h => F9 (ls (by decide) h), fun h => F10 (ls (by decide) h), fun h => F11 (ls (by decide) h), fun h => F12 (ls (by decide) h), fun h => F13 (ls (by decide) h), fun h => F14 (ls (by decide) h), fun h => F15 (ls (by decide) h), fun h => F16 (ls (by decide) h), fun h => F17 (ls (by decide) h), fun h => F18 (ls (by decide) h), fun h => F19 (ls (by decide) h), fun h => F20 (ls (by decide) h), fun h => F21 (ls (by decide) h), fun h => F22 (ls (by decide) h), fun h => F23 (ls (by decide) h), fun h => F24 (ls (by decide) h), fun h => F25 (ls (by decide) h), fun h => F26 (ls (by decide) h), fun h => F27 (ls (by decide) h), fun _ => rfl, fun h => F29 (ls (by decide) h), fun h => F30 (ls (by decide) h), fun h => F31 (ls (by decide) h), fun h => F32 (ls (by decide) h), fun h => F33 (ls (by decide) h), fun h => F34 (ls (by decide) h), fun h => F35 (ls (by decide) h), fun h => F36 (ls (by decide) h), fun h => F37 (ls (by decide) h), fun h => F38 (ls (by decide) h), fun h => F39 (ls (by decide) h), fun h => F40 (ls (by decide) h), fun h => F41 (ls (by decide) h), fun h => F42 (ls (by decide) h), fun h => F43 (ls (by decide) h), fun h => F44 (ls (by decide) h), fun h => F45 (ls (by decide) h), fun h => F46 (ls (by decide) h), fun h => F47 (ls (by decide) h), fun h => F48 (ls (by decide) h), F49, F50, F51, F52, F53⟩
    · simp only [List.getElem?_toArray, List.getElem?_cons_zero, List.getElem?_cons_succ, Option.some.injEq] at ho
      subst ho
      obtain rfl := F28 (hd ⟨28, .data⟩ (by simp) rfl)
      obtain rfl := F25 (hd ⟨25, .guard⟩ (by simp) rfl)
      have O'1 := F51; obtain ⟨_, _, _, _⟩ := O'1
      refine wpOp_step rfl (fun K hK => ?_)
      go_simp
      refine hK _ _ ?_
      exact ⟨_, _, _, _, _, _, _, _, _, _, _, _, _, _, _, _, _, _, _, _, _, _, _, _, _, _, _, _, _, _, _, _, _, _, _, _, _, _, _, _, _, _, _, _, _, _, _, _, _, rfl, fun h => F0 (ls (by decide) h), fun h => F1 (ls (by decide) h), fun h => F2 (ls (by decide) h), fun h => F3 (ls (by decide) h), fun h => F4 (ls (by decide) h), fun h => F5 (ls (by decide) h), fun h => F6 (ls (by decide) h), fun h => F7 (ls (by decide) h), fun h => F8 (ls (by decide) h), fun h => F9 (ls (by decide) h), fun h => F10 (ls (by decide) h), fun h => F11 (ls (by decide) h), fun h => F12 (ls (by decide) h), fun h => F13 (ls (by decide) h), fun h => F14 (ls (by decide) h), fun h => F15 (ls (by decide) h), fun h => F16 (ls (by decide) h), fun h => F17 (ls (by decide) h), fun h => F18 (ls (by decide) h), fun h => F19 (ls (by decide) h), fun h => F20 (ls (by decide) h), fun h => F21 (ls (by decide) h), fun h => F22 (ls (by decide) h), fun h => F23 (ls (by decide) h), fun h => F24 (ls (by decide) h), fun h => F25 (ls (by decide) h), fun h => F26 (ls (by decide) h), fun h => F27 (ls (by decide) h), fun h => F28 (ls (by decide) h), fun _ => rfl, fun h => F30 (ls (by decide) h), fun h => F31 (ls (by decide) h), fun h => F32 (ls (by decide) h), fun h => F33 (ls (by decide) h), fun h => F34 (ls (by decide) h), fun h => F35 (ls (by decide) h), fun h => F36 (ls (by decide) h), fun h => F37 (ls (by decide) h), fun h => F38 (ls (by decide) h), fun h => F39 (ls (by decide) h), fun h => F40 (ls (by decide) h), fun h => F41 (ls (by decide) h), fun h => F42 (ls (by decide) h), fun h => F43 (ls (by decide) h), fun h => F44 (ls (by decide) h), fun h => F45 (ls (by decide) h), fun h => F46 (ls (by decide) h), fun h => F47 (ls (by decide) h), fun h => F48 (ls (by decide) h), F49, F50, F51, F52, F53⟩
    · simp only [List.getElem?_toArray, List.getElem?_cons_zero, List.getElem?_cons_succ, Option.some.injEq] at ho
      subst ho
      obtain rfl := F27 (hd ⟨27, .data⟩ (by simp) rfl)
      obtain rfl := F29 (hd ⟨29, .data⟩ (by simp) rfl)
      obtain rfl := F25 (hd ⟨25, .guard⟩ (by simp) rfl)
      refine wpOp_step rfl (fun K hK => ?_)
      go_simp
      refine hK _ _ ?_
      exact ⟨_, _, _, _, _, _, _, _, _, _, _, _, _, _, _, _, _, _, _, _, _, _, _, _, _, _, _, _, _, _, _, _, _, _, _, _, _, _, _, _, _, _, _, _, _, _, _, _, _, rfl, fun h => F0 (ls (by decide) h), fun h => F1 (ls (by decide) h), fun h => F2 (ls (by decide) h), fun h => F3 (ls (by decide) h), fun h => F4 (ls (by decide) h), fun h => F5 (ls (by decide) h), fun h => F6 (ls (by decide) h), fun h => F7 (ls (by decide) h), fun h => F8 (ls (by decide) h), fun h => F9 (ls (by decide) h), fun h => F10 (ls (by decide) h), fun h => F11 (ls (by decide) h), fun h => F12 (ls (by decide) h), fun h => F13 (ls (by decide) h), fun h => F14 (ls (by decide) h), fun h => F15 (ls (by decide) h), fun h => F16 (ls (by decide) h), fun h => F17 (ls (by decide) h), fun h => F18 (ls (by decide) h), fun h => F19 (ls (by decide) h), fun h => F20 (ls (by decide) h), fun h => F21 (ls (by decide) h), fun h => F22 (ls (by decide) h), fun h => F23 (ls (by decide) h), fun h => F24 (ls (by decide) h), fun h => F25 (ls (by decide) h), fun h => F26 (ls (by decide) h), fun h => F27 (ls (by decide) h), fun h => F28 (ls (by decide) h), fun h => F29 (ls (by decide) h), fun _ => rfl, fun h => F31 (ls (by decide) h), fun h => F32 (ls (by decide) h), fun h => F33 (ls (by decide) h), fun h => F34 (ls (by decide) h), fun h => F35 (ls (by decide) h), fun h => F36 (ls (by decide) h), fun h => F37 (ls (by decide) h), fun h => F38 (ls (by decide) h), fun h => F39 (ls (by decide) h), fun h => F40 (ls (by decide) h), fun h => F41 (ls (by decide) h), fun h => F42 (ls (by decide) h), fun h => F43 (ls (by decide) h), fun h => F44 (ls (by decide) h), fun h => F45 (ls (by decide) h), fun h => F46 (ls (by decide) h), fun h => F47 (ls (by decide) h), fun h => F48 (ls (by decide) h), F49, F50, F51, F52, F53⟩
    · simp only [List.getElem?_toArray, List.getElem?_cons_zero, List.getElem?_cons_succ, Option.some.injEq] at ho
      subst ho
      obtain rfl := F30 (hd ⟨30, .data⟩ (by simp) rfl)
      obtain rfl := F25 (hd ⟨25, .guard⟩ (by simp) rfl)
      refine wpOp_step rfl (fun K hK => ?_)
      go_simp
      refine hK _ _ ?_
      exact ⟨_, _, _, _, _, _, _, _, _, _, _, _, _, _, _, _, _, _, _, _, _, _, _, _, _, _, _, _, _, _, _, _, _, _, _, _, _, _, _, _, _, _, _, _, _, _, _, _, _, rfl, fun h => F0 (ls (by decide) h), fun h => F1 (ls (by decide) h), fun h => F2 (ls (by decide) h), fun h => F3 (ls (by decide) h), fun h => F4 (ls (by decide) h), fun h => F5 (ls (by decide) h), fun h => F6 (ls (by decide) h), fun h => F7 (ls (by decide) h), fun h => F8 (ls (by decide) h), fun h => F9 (ls (by decide) h), fun h => F10 (ls (by decide) h), fun h => F11 (ls (by decide) h), fun h => F12 (ls (by decide) h), fun h => F13 (ls (by decide) h), fun h => F14 (ls (by decide) h), fun h => F15 (ls (by decide) h), fun h => F16 (ls (by decide) h), fun h => F17 (ls (by decide) h), fun h => F18 (ls (by decide) h), fun h => F19 (ls (by decide) h), fun h => F20 (ls (by decide) h), fun h => F21 (ls (by decide) h), fun h => F22 (ls (by decide) h), fun h => F23 (ls (by decide) h), fun h => F24 (ls (by decide) h), fun h => F25 (ls (by decide) h), fun h => F26 (ls (by decide) h), fun h => F27 (ls (by decide) h), fun h => F28 (ls (by decide) h), fun h => F29 (ls (by decide) h), fun h => F30 (ls (by decide) h), fun _ => rfl, fun h => F32 (ls (by decide) h), fun h => F33 (ls (by decide) h), fun h => F34 (ls (by decide) h), fun h => F35 (ls (by decide) h), fun h => F36 (ls (by decide) h), fun h => F37 (ls (by decide) h), fun h => F38 (ls (by decide) h), fun h => F39 (ls (by decide) h), fun h => F40 (ls (by decide) h), fun h => F41 (ls (by decide) h), fun h => F42 (ls (by decide) h), fun h => F43 (ls (by decide) h), fun h => F44 (ls (by decide) h), fun h => F45 (ls (by decide) h), fun h => F46 (ls (by decide) h), fun h => F47 (ls (by decide) h), fun h => F48 (ls (by decide) h), F49, F50, F51, F52, F53⟩
    · simp only [List.getElem?_toArray, List.getElem?_cons_zero, List.getElem?_cons_succ, Option.some.injEq] at ho
      subst ho
      obtain rfl := F25 (hd ⟨25, .data⟩ (by simp) rfl)
      obtain rfl := F31 (hd ⟨31, .data⟩ (by simp) rfl)
      refine wpOp_step rfl (fun K hK => ?_)
      go_simp
      refine hK _ _ ?_
      exact ⟨_, _, _, _, _, _, _, _, _, _, _, _, _, _, _, _, _, _, _, _, _, _, _, _, _, _, _, _, _, _, _, _, _, _, _, _, _, _, _, _, _, _, _, _, _, _, _, _, _, rfl, fun h => F0 (ls (by decide) h), fun h => F1 (ls (by decide) h), fun h => F2 (ls (by decide) h), fun h => F3 (ls (by decide) h), fun h => F4 (ls (by decide) h), fun h => F5 (ls (by decide) h), fun h => F6 (ls (by decide) h), fun h => F7 (ls (by decide) h), fun h => F8 (ls (by decide) h), fun h => F9 (ls (by decide) h), fun h => F10 (ls (by decide) h), fun h => F11 (ls (by decide) h), fun h => F12 (ls (by decide) h), fun h => F13 (ls (by decide) h), fun h => F14 (ls (by decide) h), fun h => F15 (ls (by decide) h), fun h => F16 (ls (by decide) h), fun h => F17 (ls (by decide) h), fun h => F18 (ls (by decide) h), fun h => F19 (ls (by decide) h), fun h => F20 (ls (by decide) h), fun h => F21 (ls (by decide) h), fun h => F22 (ls (by decide) h), fun h => F23 (ls (by decide) h), fun h => F24 (ls (by decide) h), fun h => F25 (ls (by decide) h), fun h => F26 (ls (by decide) h), fun h => F27 (ls (by decide) h), fun h => F28 (ls (by decide) h), fun h => F29 (ls (by decide) h), fun h => F30 (ls (by decide) h), fun h => F31 (ls (by decide) h), fun _ => rfl, fun h => F33 (ls (by decide) h), fun h => F34 (ls (by decide) h), fun h => F35 (ls (by decide) h), fun h => F36 (ls (by decide) h), fun h => F37 (ls (by decide) h), fun h => F38 (ls (by decide) h), fun h => F39 (ls (by decide) h), fun h => F40 (ls (by decide) h), fun h => F41 (ls (by decide) h), fun h => F42 (ls (by decide) h), fun h => F43 (ls (by decide) h), fun h => F44 (ls (by decide) h), fun h => F45 (ls (by decide) h), fun h => F46 (ls (by decide) h), fun h => F47 (ls (by decide) h), fun h => F48 (ls (by decide) h), F49, F50, F51, F52, F53⟩
    · simp only [List.getElem?_toArray, List.getElem?_cons_zero, List.getElem?_cons_succ, Option.some.injEq] at ho
      subst ho
      obtain rfl := F32 (hd ⟨32, .data⟩ (by simp) rfl)
      refine wpOp_step rfl (fun K hK => ?_)
      go_simp
      refine hK _ _ ?_
      exact ⟨_, _, _, _, _, _, _, _, _, _, _, _, _, _, _, _, _, _, _, _, _, _, _, _, _, _, _, _, _, _, _, _, _, _, _, _, _, _, _, _, _, _, _, _, _, _, _, _, _, rfl, fun h => F0 (ls (by decide) h), fun h => F1 (ls (by decide) h), fun h => F2 (ls (by decide) h), fun h => F3 (ls (by decide) h), fun h => F4 (ls (by decide) h), fun h => F5 (ls (by decide) h), fun h => F6 (ls (by decide) h), fun h => F7 (ls (by decide) h), fun h => F8 (ls (by decide) h), fun h => F9 (ls (by decide) h), fun h => F10 (ls (by decide) h), fun h => F11 (ls (by decide) h), fun h => F12 (ls (by decide) h), fun h => F13 (ls (by decide) h), fun h => F14 (ls (by decide) h), fun h => F15 (ls (by decide) h), fun h => F16 (ls (by decide) h), fun h => F17 (ls (by decide) h), fun h => F18 (ls (by decide) h), fun h => F19 (ls (by decide) h), fun h => F20 (ls (by decide) h), fun h => F21 (ls (by decide) h), fun h => F22 (ls (by decide) h), fun h => F23 (ls (by decide) h), fun h => F24 (ls (by decide) h), fun h => F25 (ls (by decide) h), fun h => F26 (ls (by decide) h), fun h => F27 (ls (by decide) h), fun h => F28 (ls (by decide) h), fun h => F29 (ls (by decide) h), fun h => F30 (ls (by decide) h), fun h => F31 (ls (by decide) h), fun h => F32 (ls (by decide) h), fun _ => rfl, fun h => F34 (ls (by decide) h), fun h => F35 (ls (by decide) h), fun h => F36 (ls (by decide) h), fun h => F37 (ls (by decide) h), fun h => F38 (ls (by decide) h), fun h => F39 (ls (by decide) h), fun h => F40 (ls (by decide) h), fun h => F41 (ls (by decide) h), fun h => F42 (ls (by decide) h), fun h => F43 (ls (by decide) h), fun h => F44 (ls (by decide) h), fun h => F45 (ls (by decide) h), fun h => F46 (ls (by decide) h), fun h => F47 (ls (by decide) h), fun h => F48 (ls (by decide) h), F49, F50, F51, F52, F53⟩
    · simp only [List.getElem?_toArray, List.getElem?_cons_zero, List.getElem?_cons_succ, Option.some.injEq] at ho
      subst ho
      obtain rfl := F33 (hd ⟨33, .guard⟩ (by simp) rfl)
      refine wpOp_step rfl (fun K hK => ?_)
      go_simp
      refine hK _ _ ?_
      exact ⟨_, _, _, _, _, _, _, _, _, _, _, _, _, _, _, _, _, _, _, _, _, _, _, _, _, _, _, _, _, _, _, _, _, _, _, _, _, _, _, _, _, _, _, _, _, _, _, _, _, rfl, fun h => F0 (ls (by decide) h), fun h => F1 (ls (by decide) h), fun h => F2 (ls (by decide) h), fun h => F3 (ls (by decide) h), fun h => F4 (ls (by decide) h), fun h => F5 (ls (by decide) h), fun h => F6 (ls (by decide) h), fun h => F7 (ls (by decide) h), fun h => F8 (ls (by decide) h), fun h => F9 (ls (by decide) h), fun h => F10 (ls (by decide) h), fun h => F11 (ls (by decide) h), fun h => F12 (ls (by decide) h), fun h => F13 (ls (by decide) h), fun h => F14 (ls (by decide) h), fun h => F15 (ls (by decide) h), fun h => F16 (ls (by decide) h), fun h => F17 (ls (by decide) h), fun h => F18 (ls (by decide) h), fun h => F19 (ls (by decide) h), fun h => F20 (ls (by decide) h), fun h => F21 (ls (by decide) h), fun h => F22 (ls (by decide) h), fun h => F23 (ls (by decide) h), fun h => F24 (ls (by decide) h), fun h => F25 (ls (by decide) h), fun h => F26 (ls (by decide) h), fun h => F27 (ls (by decide) h), fun h => F28 (ls (by decide) h), fun h => F29 (ls (by decide) h), fun h => F30 (ls (by decide) h), fun h => F31 (ls (by decide) h), fun h => F32 (ls (by decide) h), fun h => F33 (ls (by decide) h), fun _ => rfl, fun h => F35 (ls (by decide) h), fun h => F36 (ls (by decide) h), fun h => F37 (ls (by decide) h), fun h => F38 (ls (by decide) h), fun h => F39 (ls (by decide) h), fun h => F40 (ls (by decide) h), fun h => F41 (ls (by decide) h), fun h => F42 (ls (by decide) h), fun h => F43 (ls (by decide) h), fun h => F44 (ls (by decide) h), fun h => F45 (ls (by decide) h), fun h => F46 (ls (by decide) h), fun h => F47 (ls (by decide) h), fun h => F48 (ls (by decide) h), F49, F50, F51, F52, F53⟩
    · simp only [List.getElem?_toArray, List.getElem?_cons_zero, List.getElem?_cons_succ, Option.some.injEq] at ho
      subst ho
      obtain rfl := F34 (hd ⟨34, .data⟩ (by simp) rfl)
      obtain rfl := F33 (hd ⟨33, .guard⟩ (by simp) rfl)
      have O'2 := F52; obtain ⟨_, _, _, _⟩ := O'2
      refine wpOp_step rfl (fun K hK => ?_)
      go_simp
      refine hK _ _ ?_
      exact ⟨_, _, _, _, _, _, _, _, _, _, _, _, _, _, _, _, _, _, _, _, _, _, _, _, _, _, _, _, _, _, _, _, _, _, _, _, _, _, _, _, _, _, _, _, _, _, _, _, _, rfl, fun h => F0 (ls (by decide) h), fun h => F1 (ls (by decide) h), fun h => F2 (ls (by decide) h), fun h => F3 (ls (by decide) h), fun h => F4 (ls (by decide) h), fun h => F5 (ls (by decide) h), fun h => F6 (ls (by decide) h), fun h => F7 (ls (by decide) h), fun h => F8 (ls (by decide) h), fun h => F9 (ls (by decide) h), fun h => F10 (ls (by decide) h), fun h => F11 (ls (by decide) h), fun h => F12 (ls (by decide) h), fun h => F13 (ls (by decide) h), fun h => F14 (ls (by decide) h), fun h => F15 (ls (by decide) h), fun h => F16 (ls (by decide) h), fun h => F17 (ls (by decide) h), fun h => F18 (ls (by decide) h), fun h => F19 (ls (by decide) h), fun h => F20 (ls (by decide) h), fun h => F21 (ls (by decide) h), fun h => F22 (ls (by decide) h), fun h => F23 (ls (by decide) h), fun h => F24 (ls (by decide) h), fun h => F25 (ls (by decide) h), fun h => F26 (ls (by decide) h), fun h => F27 (ls (by decide) h), fun h => F28 (ls (by decide) h), fun h => F29 (ls (by decide) h), fun h => F30 (ls (by decide) h), fun h => F31 (ls (by decide) h), fun h => F32 (ls (by decide) h), fun h => F33 (ls (by decide) h), fun h => F34 (ls (by decide) h), fun _ => rfl, fun h => F36 (ls (by decide) h), fun h => F37 (ls (by decide) h), fun h => F38 (ls (by decide) h), fun h => F39 (ls (by decide) h), fun h => F40 (ls (by decide) h), fun h => F41 (ls (by decide) h), fun h => F42 (ls (by decide) h), fun h => F43 (ls (by decide) h), fun h => F44 (ls (by decide) h), fun h => F45 (ls (by decide) h), fun h => F46 (ls (by decide) h), fun h => F47 (ls (by decide) h), fun h => F48 (ls (by decide) h), F49, F50, F51, F52, F53⟩
    · simp only [List.getElem?_toArray, List.getElem?_cons_zero, List.getElem?_cons_succ, Option.some.injEq] at ho
      subst ho
      obtain rfl := F33 (hd ⟨33, .guard⟩ (by simp) rfl)
      refine wpOp_step rfl (fun K hK => ?_)
      go_simp
      refine hK _ _ ?_
      exact ⟨_, _, _, _, _, _, _, _, _, _, _, _, _, _, _, _, _, _, _, _, _, _, _, _, _, _, _, _, _, _, _, _, _, _, _, _, _, _, _, _, _, _, _, _, _, _, _, _, _, rfl, fun h => F0 (ls (by decide) h), fun h => F1 (ls (by decide) h), fun h => F2 (ls (by decide) h), fun h => F3 (ls (by decide) h), fun h => F4 (ls (by decide) h), fun h => F5 (ls (by decide) h), fun h => F6 (ls (by decide) h), fun h => F7 (ls (by decide) h), fun h => F8 (ls (by decide) h), fun h => F9 (ls (by decide) h), fun h => F10 (ls (by decide) h), fun h => F11 (ls (by decide) h), fun h => F12 (ls (by decide) h), fun h => F13 (ls (by decide) h), fun h => F14 (ls (by decide) h), fun h => F15 (ls (by decide) h), fun h => F16 (ls (by decide) h), fun h => F17 (ls (by decide) h), fun h => F18 (ls (by decide) h), fun h => F19 (ls (by decide) h), fun h => F20 (ls (by decide) h), fun h => F21 (ls (by decide) h), fun h => F22 (ls (by decide) h), fun h => F23 (ls (by decide) h), fun h => F24 (ls (by decide) h), fun h => F25 (ls (by decide) h), fun h => F26 (ls (by decide) h), fun h => F27 (ls (by decide) h), fun h => F28 (ls (by decide) h), fun h => F29 (ls (by decide) h), fun h => F30 (ls (by decide) h), fun h => F31 (ls (by decide) h), fun h => F32 (ls (by decide) h), fun h => F33 (ls (by decide) h), fun h => F34 (ls (by decide) h), fun h => F35 (ls (by decide) h), fun _ => rfl, fun h => F37 (ls (by decide) h), fun h => F38 (ls (by decide) h), fun h => F39 (ls (by decide) h), fun h => F40 (ls (by decide) h), fun h => F41 (ls (by decide) h), fun h => F42 (ls (by decide) h), fun h => F43 (ls (by decide) h), fun h => F44 (ls (by decide) h), fun h => F45 (ls (by decide) h), fun h => F46 (ls (by decide) h), fun h => F47 (ls (by decide) h), fun h => F48 (ls (by decide) h), F49, F50, F51, F52, F53⟩
    · simp only [List.getElem?_toArray, List.getElem?_cons_zero, List.getElem?_cons_succ, Option.some.injEq] at ho
      subst ho
      obtain rfl := F36 (hd ⟨36, .data⟩ (by simp) rfl)
      obtain rfl := F33 (hd ⟨33, .guard⟩ (by simp) rfl)
      have O'1 := F51; obtain ⟨_, _, _, _⟩ := O'1
      refine wpOp_step rfl (fun K hK => ?_)
      go_simp
      refine hK _ _ ?_
      exact ⟨_, _, _, _, _, _, _, _, _, _, _, _, _, _, _, _, _, _, _, _, _, _, _, _, _, _, _, _, _, _, _, _, _, _, _, _, _, _, _, _, _, _, _, _, _, _, _, _, _, rfl, fun h => F0 (ls (by decide) h), fun h => F1 (ls (by decide) h), fun h => F2 (ls (by decide) h), fun h => F3 (ls (by decide) h), fun h => F4 (ls (by decide) h), fun h => F5 (ls (by decide) h), fun h => F6 (ls (by decide) h), fun h => F7 (ls (by decide) h), fun h => F8 (ls (by decide) h), fun h => F9 (ls (by decide) h), fun h => F10 (ls (by decide) h), fun h => F11 (ls (by decide) h), fun h => F12 (ls (by decide) h), fun h => F13 (ls (by decide) h), fun h => F14 (ls (by decide) h), fun h => F15 (ls (by decide) h), fun h => F16 (ls (by decide) h), fun h => F17 (ls (by decide) h), fun h => F18 (ls (by decide) h), fun h => F19 (ls (by decide) h), fun h => F20 (ls (by decide) h), fun h => F21 (ls (by decide) h), fun h => F22 (ls (by decide) h), fun h => F23 (ls (by decide) h), fun h => F24 (ls (by decide) h), fun h => F25 (ls (by decide) h), fun h => F26 (ls (by decide) h), fun h => F27 (ls (by decide) h), fun h => F28 (ls (by decide) h), fun h => F29 (ls (by decide) h), fun h => F30 (ls (by decide) h), fun h => F31 (ls (by decide) h), fun h => F32 (ls (by decide) h), fun h => F33 (ls (by decide) h), fun h => F34 (ls (by decide) h), fun h => F35 (ls (by decide) h), fun h => F36 (ls (by decide) h), fun _ => rfl, fun h => F38 (ls (by decide) h), fun h => F39 (ls (by decide) h), fun h => F40 (ls (by decide) h), fun h => F41 (ls (by decide) h), fun h => F42 (ls (by decide) h), fun h => F43 (ls (by decide) h), fun h => F44 (ls (by decide) h), fun h => F45 (ls (by decide) h), fun h => F46 (ls (by decide) h), fun h => F47 (ls (by decide) h), fun h => F48 (ls (by decide) h), F49, F50, F51, F52, F53⟩
    · simp only [List.getElem?_toArray, List.getElem?_cons_zero, List.getElem?_cons_succ, Option.some.injEq] at ho
      subst ho
      obtain rfl := F35 (hd ⟨35, .data⟩ (by simp) rfl)
      obtain rfl := F37 (hd ⟨37, .data⟩ (by simp) rfl)
      obtain rfl := F33 (hd ⟨33, .guard⟩ (by simp) rfl)
      refine wpOp_step rfl (fun K hK => ?_)
      go_simp
      refine hK _ _ ?_
      exact ⟨_, _, _, _, _, _, _, _, _, _, _, _, _, _, _, _, _, _, _, _, _, _, _, _, _, _, _, _, _, _, _, _, _, _, _, _, _, _, _, _, _, _, _, _, _, _, _, _, _, rfl, fun h => F0 (ls (by decide) h), fun h => F1 (ls (by decide) h), fun h => F2 (ls (by decide) h), fun h => F3 (ls (by decide) h), fun h => F4 (ls (by decide) h), fun h => F5 (ls (by decide) h), fun h => F6 (ls (by decide) h), fun h => F7 (ls (by decide) h), fun h => F8 (ls (by decide) h), fun h => F9 (ls (by decide) h), fun h => F10 (ls (by decide) h), fun h => F11 (ls (by decide) h), fun h => F12 (ls (by decide) h), fun h => F13 (ls (by decide) h), fun h => F14 (ls (by decide) h), fun h => F15 (ls (by decide) h), fun h => F16 (ls (by decide) h), fun h => F17 (ls (by decide) h), fun h => F18 (ls (by decide) h), fun h => F19 (ls (by decide) h), fun h => F20 (ls (by decide) h), fun h => F21 (ls (by decide) h), fun h => F22 (ls (by decide) h), fun h => F23 (ls (by decide) h), fun h => F24 (ls (by decide) h), fun h => F25 (ls (by decide) h), fun h => F26 (ls (by decide) h), fun h => F27 (ls (by decide) h), fun h => F28 (ls (by decide) h), fun h => F29 (ls (by decide) h), fun h => F30 (ls (by decide) h), fun h => F31 (ls (by decide) h), fun h => F32 (ls (by decide) h), fun h => F33 (ls (by decide) h), fun h => F34 (ls (by decide) h), fun h => F35 (ls (by decide) h), fun h => F36 (ls (by decide) h), fun h => F37 (ls (by decide) h), fun _ => rfl, fun h => F39 (ls (by decide) h), fun h => F40 (ls (by decide) h), fun h => F41 (ls (by decide) h), fun h => F42 (ls (by decide) h), fun h => F43 (ls (by decide) h), fun h => F44 (ls (by decide) h), fun h => F45 (ls (by decide) h), fun h => F46 (ls (by decide) h), fun h => F47 (ls (by decide) h), fun h => F48 (ls (by decide) h), F49, F50, F51, F52, F53⟩
    · simp only [List.getElem?_toArray, List.getElem?_cons_zero, List.getElem?_cons_succ, Option.some.injEq] at ho
      subst ho
      obtain rfl := F33 (hd ⟨33, .data⟩ (by simp) rfl)
      obtain rfl := F38 (hd ⟨38, .data⟩ (by simp) rfl)
      refine wpOp_step rfl (fun K hK => ?_)
      go_simp
      refine hK _ _ ?_
      exact ⟨_, _, _, _, _, _, _, _, _, _, _, _, _, _, _, _, _, _, _, _, _, _, _, _, _, _, _, _, _, _, _, _, _, _, _, _, _, _, _, _, _, _, _, _, _, _, _, _, _, rfl, fun h => F0 (ls (by decide) h), fun h => F1 (ls (by decide) h), fun h => F2 (ls (by decide) h), fun h => F3 (ls (by decide) h), fun h => F4 (ls (by decide) h), fun h => F5 (ls (by decide) h), fun h => F6 (ls (by decide) h), fun h => F7 (ls (by decide) h), fun h => F8 (ls (by decide) h), fun h => F9 (ls (by decide) h), fun h => F10 (ls (by decide) h), fun h => F11 (ls (by decide) h), fun h => F12 (ls (by decide) h), fun h => F13 (ls (by decide) h), fun h => F14 (ls (by decide) h), fun h => F15 (ls (by decide) h), fun h => F16 (ls (by decide) h), fun h => F17 (ls (by decide) h), fun h => F18 (ls (by decide) h), fun h => F19 (ls (by decide) h), fun h => F20 (ls (by decide) h), fun h => F21 (ls (by decide) h), fun h => F22 (ls (by decide) h), fun h => F23 (ls (by decide) h), fun h => F24 (ls (by decide) h), fun h => F25 (ls (by decide) h), fun h => F26 (ls (by decide) h), fun h => F27 (ls (by decide) h), fun h => F28 (ls (by decide) h), fun h => F29 (ls (by decide) h), fun h => F30 (ls (by decide) h), fun h => F31 (ls (by decide) h), fun h => F32 (ls (by decide) h), fun h => F33 (ls (by decide) h), fun h => F34 (ls (by decide) h), fun h => F35 (ls (by decide) h), fun h => F36 (ls (by decide) h), fun h => F37 (ls (by decide) h), fun h => F38 (ls (by decide) h), fun _ => rfl, fun h => F40 (ls (by decide) h), fun h => F41 (ls (by decide) h), fun h => F42 (ls (by decide) h), fun h => F43 (ls (by decide) h), fun h => F44 (ls (by decide) h), fun h => F45 (ls (by decide) h), fun h => F46 (ls (by decide) h), fun h => F47 (ls (by decide) h), fun h => F48 (ls (by decide) h), F49, F50, F51, F52, F53⟩
    · simp only [List.getElem?_toArray, List.getElem?_cons_zero, List.getElem?_cons_succ, Option.some.injEq] at ho
      subst ho
      obtain rfl := F39 (hd ⟨39, .data⟩ (by simp) rfl)
      refine wpOp_step rfl (fun K hK => ?_)
      go_simp
      refine hK _ _ ?_
      exact ⟨_, _, _, _, _, _, _, _, _, _, _, _, _, _, _, _, _, _, _, _, _, _, _, _, _, _, _, _, _, _, _, _, _, _, _, _, _, _, _, _, _, _, _, _, _, _, _, _, _, rfl, fun h => F0 (ls (by decide) h), fun h => F1 (ls (by decide) h), fun h => F2 (ls (by decide) h), fun h => F3 (ls (by decide) h), fun h => F4 (ls (by decide) h), fun h => F5 (ls (by decide) h), fun h => F6 (ls (by decide) h), fun h => F7 (ls (by decide) h), fun h => F8 (ls (by decide) h), fun h => F9 (ls (by decide) h), fun h => F10 (ls (by decide) h), fun h => F11 (ls (by decide) h), fun h => F12 (ls (by decide) h), fun h => F13 (ls (by decide) h), fun h => F14 (ls (by decide) h), fun h => F15 (ls (by decide) h), fun h => F16 (ls (by decide) h), fun h => F17 (ls (by decide) h), fun h => F18 (ls (by decide) h), fun h => F19 (ls (by decide) h), fun h => F20 (ls (by decide) h), fun h => F21 (ls (by decide) h), fun h => F22 (ls (by decide) h), fun h => F23 (ls (by decide) h), fun h => F24 (ls (by decide) h), fun h => F25 (ls (by decide) h), fun h => F26 (ls (by decide) h), fun h => F27 (ls (by decide) h), fun h => F28 (ls (by decide) h), fun h => F29 (ls (by decide) h), fun h => F30 (ls (by decide) h), fun h => F31 (ls (by decide) h), fun h => F32 (ls (by decide) h), fun h => F33 (ls (by decide) h), fun h => F34 (ls (by decide) h), fun h => F35 (ls (by decide) h), fun h => F36 (ls (by decide) h), fun h => F37 (ls (by decide) h), fun h => F38 (ls (by decide) h), fun h => F39 (ls (by decide) h), fun _ => rfl, fun h => F41 (ls (by decide) h), fun h => F42 (ls (by decide) h), fun h => F43 (ls (by decide) h), fun h => F44 (ls (by decide) h), fun h => F45 (ls (by decide) h), fun h => F46 (ls (by decide) h), fun h => F47 (ls (by decide) h), fun h => F48 (ls (by decide) h), F49, F50, F51, F52, F53⟩
    · simp only [List.getElem?_toArray, List.getElem?_cons_zero, List.getElem?_cons_succ, Option.some.injEq] at ho
      subst ho
      obtain rfl := F40 (hd ⟨40, .guard⟩ (by simp) rfl)
      have O'2 := F52; obtain ⟨_, _, _, _⟩ := O'2
      refine wpOp_step rfl (fun K hK => ?_)
      go_simp
      refine hK _ _ ?_
      exact ⟨_, _, _, _, _, _, _, _, _, _, _, _, _, _, _, _, _, _, _, _, _, _, _, _, _, _, _, _, _, _, _, _, _, _, _, _, _, _, _, _, _, _, _, _, _, _, _, _, _, rfl, fun h => F0 (ls (by decide) h), fun h => F1 (ls (by decide) h), fun h => F2 (ls (by decide) h), fun h => F3 (ls (by decide) h), fun h => F4 (ls (by decide) h), fun h => F5 (ls (by decide) h), fun h => F6 (ls (by decide) h), fun h => F7 (ls (by decide) h), fun h => F8 (ls (by decide) h), fun h => F9 (ls (by decide) h), fun h => F10 (ls (by decide) h), fun h => F11 (ls (by decide) h), fun h => F12 (ls (by decide) h), fun h => F13 (ls (by decide) h), fun h => F14 (ls (by decide) h), fun h => F15 (ls (by decide) h), fun h => F16 (ls (by decide) h), fun h => F17 (ls (by decide) h), fun h => F18 (ls (by decide) h), fun h => F19 (ls (by decide) h), fun h => F20 (ls (by decide) h), fun h => F21 (ls (by decide) h), fun h => F22 (ls (by decide) h), fun h => F23 (ls (by decide) h), fun h => F24 (ls (by decide) h), fun h => F25 (ls (by decide) h), fun h => F26 (ls (by decide) h), fun h => F27 (ls (by decide) h), fun h => F28 (ls (by decide) h), fun h => F29 (ls (by decide) h), fun h => F30 (ls (by decide) h), fun h => F31 (ls (by decide) h), fun h => F32 (ls (by decide) h), fun h => F33 (ls (by decide) h), fun h => F34 (ls (by decide) h), fun h => F35 (ls (by decide) h), fun h => F36 (ls (by decide) h), fun h => F37 (ls (by decide) h), fun h => F38 (ls (by decide) h), fun h => F39 (ls (by decide) h), fun h => F40 (ls (by decide) h), fun _ => rfl, fun h => F42 (ls (by decide) h), fun h => F43 (ls (by decide) h), fun h => F44 (ls (by decide) h), fun h => F45 (ls (by decide) h), fun h => F46 (ls (by decide) h), fun h => F47 (ls (by decide) h), fun h => F48 (ls (by decide) h), F49, F50, F51, F52, F53⟩
    · simp only [List.getElem?_toArray, List.getElem?_cons_zero, List.getElem?_cons_succ, Option.some.injEq] at ho
      subst ho
      obtain rfl := F40 (hd ⟨40, .guard⟩ (by simp) rfl)
      have O'1 := F51; obtain ⟨_, _, _, _⟩ := O'1
      refine wpOp_step rfl (fun K hK => ?_)
      go_simp
      refine hK _ _ ?_
      exact ⟨_, _, _, _, _, _, _, _, _, _, _, _, _, _, _, _, _, _, _, _, _, _, _, _, _, _, _, _, _, _, _, _, _, _, _, _, _, _, _, _, _, _, _, _, _, _, _, _, _, rfl, fun h => F0 (ls (by decide) h), fun h => F1 (ls (by decide) h), fun h => F2 (ls (by decide) h), fun h => F3 (ls (by decide) h), fun h => F4 (ls (by decide) h), fun h => F5 (ls (by decide) h), fun h => F6 (ls (by decide) h), fun h => F7 (ls (by decide) h), fun h => F8 (ls (by decide) h), fun h => F9 (ls (by decide) h), fun h => F10 (ls (by decide) h), fun h => F11 (ls (by decide) h), fun h => F12 (ls (by decide) h), fun h => F13 (ls (by decide) h), fun h => F14 (ls (by decide) h), fun h => F15 (ls (by decide) h), fun h => F16 (ls (by decide) h), fun h => F17 (ls (by decide) h), fun h => F18 (ls (by decide) h), fun h => F19 (ls (by decide) h), fun h => F20 (ls (by decide) h), fun h => F21 (ls (by decide) h), fun h => F22 (ls (by decide) h), fun h => F23 (ls (by decide) h), fun h => F24 (ls (by decide) h), fun h => F25 (ls (by decide) h), fun h => F26 (ls (by decide) h), fun h => F27 (ls (by decide) h), fun h => F28 (ls (by decide) h), fun h => F29 (ls (by decide) h), fun h => F30 (ls (by decide) h), fun h => F31 (ls (by decide) h), fun h => F32 (ls (by decide) h), fun h => F33 (ls (by decide) h), fun h => F34 (ls (by decide) h), fun h => F35 (ls (by decide) h), fun h => F36 (ls (by decide) h), fun h => F37 (ls (by decide) h), fun h => F38 (ls (by decide) h), fun h => F39 (ls (by decide) h), fun h => F40 (ls (by decide) h), fun h => F41 (ls (by decide) h), fun _ => rfl, fun h => F43 (ls (by decide) h), fun h => F44 (ls (by decide) h), fun h => F45 (ls (by decide) h), fun h => F46 (ls (by decide) h), fun h => F47 (ls (by decide) h), fun h => F48 (ls (by decide) h), F49, F50, F51, F52, F53⟩
    · simp only [List.getElem?_toArray, List.getElem?_cons_zero, List.getElem?_cons_succ, Option.some.injEq] at ho
      subst ho
      obtain rfl := F41 (hd ⟨41, .data⟩ (by simp) rfl)
      obtain rfl := F42 (hd ⟨42, .data⟩ (by simp) rfl)
      obtain rfl := F40 (hd ⟨40, .guard⟩ (by simp) rfl)
      rcases HBB.out with ⟨rfl, rfl, rfl⟩ | ⟨hne, hnk, rfl⟩
      all_goals
        refine wpOp_step rfl (fun K hK => ?_)
        go_simp
        refine hK _ _ ?_
        exact ⟨_, _, _, _, _, _, _, _, _, _, _, _, _, _, _, _, _, _, _, _, _, _, _, _, _, _, _, _, _, _, _, _, _, _, _, _, _, _, _, _, _, _, _, _, _, _, _, _, _, rfl, fun h => F0 (ls (by decide) h), fun h => F1 (ls (by decide) h), fun h => F2 (ls (by decide) h), fun h => F3 (ls (by decide) h), fun h => F4 (ls (by decide) h), fun h => F5 (ls (by decide) h), fun h => F6 (ls (by decide) h), fun h => F7 (ls (by decide) h), fun h => F8 (ls (by decide) h), fun h => F9 (ls (by decide) h), fun h => F10 (ls (by decide) h), fun h => F11 (ls (by decide) h), fun h => F12 (ls (by decide) h), fun h => F13 (ls (by decide) h), fun h => F14 (ls (by decide) h), fun h => F15 (ls (by decide) h), fun h => F16 (ls (by decide) h), fun h => F17 (ls (by decide) h), fun h => F18 (ls (by decide) h), fun h => F19 (ls (by decide) h), fun h => F20 (ls (by decide) h), fun h => F21 (ls (by decide) h), fun h => F22 (ls (by decide) h), fun h => F23 (ls (by decide) h), fun h => F24 (ls (by decide) h), fun h => F25 (ls (by decide) h), fun h => F26 (ls (by decide) h), fun h => F27 (ls (by decide) h), fun h => F28 (ls (by decide) h), fun h => F29 (ls (by decide) h), fun h => F30 (ls (by decide) h), fun h => F31 (ls (by decide) h), fun h => F32 (ls (by decide) h), fun h => F33 (ls (by decide) h), fun h => F34 (ls (by decide) h), fun h => F35 (ls (by decide) h), fun h => F36 (ls (by decide) h), fun h => F37 (ls (by decide) h), fun h => F38 (ls (by decide) h), fun h => F39 (ls (by decide) h), fun h => F40 (ls (by decide) h), fun h => F41 (ls (by decide) h), fun h => F42 (ls (by decide) h), fun _ => rfl, fun h => F44 (ls (by decide) h), fun h => F45 (ls (by decide) h), fun h => F46 (ls (by decide) h), fun h => F47 (ls (by decide) h), fun h => F48 (ls (by decide) h), F49, F50, F51, F52, F53⟩
    · simp only [List.getElem?_toArray, List.getElem?_cons_zero, List.getElem?_cons_succ, Option.some.injEq] at ho
      subst ho
      obtain rfl := F40 (hd ⟨40, .guard⟩ (by simp) rfl)
      refine wpOp_step rfl (fun K hK => ?_)
      go_simp
      refine hK _ _ ?_
      exact ⟨_, _, _, _, _, _, _, _, _, _, _, _, _, _, _, _, _, _, _, _, _, _, _, _, _, _, _, _, _, _, _, _, _, _, _, _, _, _, _, _, _, _, _, _, _, _, _, _, _, rfl, fun h => F0 (ls (by decide) h), fun h => F1 (ls (by decide) h), fun h => F2 (ls (by decide) h), fun h => F3 (ls (by decide) h), fun h => F4 (ls (by decide) h), fun h => F5 (ls (by decide) h), fun h => F6 (ls (by decide) h), fun h => F7 (ls (by decide) h), fun h => F8 (ls (by decide) h), fun h => F9 (ls (by decide) h), fun h => F10 (ls (by decide) h), fun h => F11 (ls (by decide) h), fun h => F12 (ls (by decide) h), fun h => F13 (ls (by decide) h), fun h => F14 (ls (by decide) h), fun h => F15 (ls (by decide) h), fun h => F16 (ls (by decide) h), fun h => F17 (ls (by decide) h), fun h => F18 (ls (by decide) h), fun h => F19 (ls (by decide) h), fun h => F20 (ls (by decide) h), fun h => F21 (ls (by decide) h), fun h => F22 (ls (by decide) h), fun h => F23 (ls (by decide) h), fun h => F24 (ls (by decide) h), fun h => F25 (ls (by decide) h), fun h => F26 (ls (by decide) h), fun h => F27 (ls (by decide) h), fun h => F28 (ls (by decide) h), fun h => F29 (ls (by decide) h), fun h => F30 (ls (by decide) h), fun h => F31 (ls (by decide) h), fun h => F32 (ls (by decide) h), fun h => F33 (ls (by decide) h), fun h => F34 (ls (by decide) h), fun h => F35 (ls (by decide) h), fun h => F36 (ls (by decide) h), fun h => F37 (ls (by decide) h), fun h => F38 (ls (by decide) h), fun h => F39 (ls (by decide) h), fun h => F40 (ls (by decide) h), fun h => F41 (ls (by decide) h), fun h => F42 (ls (by decide) h), fun h => F43 (ls (by decide) h), fun _ => rfl, fun h => F45 (ls (by decide) h), fun h => F46 (ls (by decide) h), fun h => F47 (ls (by decide) h), fun h => F48 (ls (by decide) h), F49, F50, F51, F52, F53⟩
    · simp only [List.getElem?_toArray, List.getElem?_cons_zero, List.getElem?_cons_succ, Option.some.injEq] at ho
      subst ho
      obtain rfl := F44 (hd ⟨44, .data⟩ (by simp) rfl)
      obtain rfl := F40 (hd ⟨40, .guard⟩ (by simp) rfl)
      have O'0 := F50; obtain ⟨_, _, _, _⟩ := O'0
      refine wpOp_step rfl (fun K hK => ?_)
      go_simp
      refine hK _ _ ?_
      exact ⟨_, _, _, _, _, _, _, _, _, _, _, _, _, _, _, _, _, _, _, _, _, _, _, _, _, _, _, _, _, _, _, _, _, _, _, _, _, _, _, _, _, _, _, _, _, _, _, _, _, rfl, fun h => F0 (ls (by decide) h), fun h => F1 (ls (by decide) h), fun h => F2 (ls (by decide) h), fun h => F3 (ls (by decide) h), fun h => F4 (ls (by decide) h), fun h => F5 (ls (by decide) h), fun h => F6 (ls (by decide) h), fun h => F7 (ls (by decide) h), fun h => F8 (ls (by decide) h), fun h => F9 (ls (by decide) h), fun h => F10 (ls (by decide) h), fun h => F11 (ls (by decide) h), fun h => F12 (ls (by decide) h), fun h => F13 (ls (by decide) h), fun h => F14 (ls (by decide) h), fun h => F15 (ls (by decide) h), fun h => F16 (ls (by decide) h), fun h => F17 (ls (by decide) h), fun h => F18 (ls (by decide) h), fun h => F19 (ls (by decide) h), fun h => F20 (ls (by decide) h), fun h => F21 (ls (by decide) h), fun h => F22 (ls (by decide) h), fun h => F23 (ls (by decide) h), fun h => F24 (ls (by decide) h), fun h => F25 (ls (by decide) h), fun h => F26 (ls (by decide) h), fun h => F27 (ls (by decide) h), fun h => F28 (ls (by decide) h), fun h => F29 (ls (by decide) h), fun h => F30 (ls (by decide) h), fun h => F31 (ls (by decide) h), fun h => F32 (ls (by decide) h), fun h => F33 (ls (by decide) h), fun h => F34 (ls (by decide) h), fun h => F35 (ls (by decide) h), fun h => F36 (ls (by decide) h), fun h => F37 (ls (by decide) h), fun h => F38 (ls (by decide) h), fun h => F39 (ls (by decide) h), fun h => F40 (ls (by decide) h), fun h => F41 (ls (by decide) h), fun h => F42 (ls (by decide) h), fun h => F43 (ls (by decide) h), fun h => F44 (ls (by decide) h), fun _ => rfl, fun h => F46 (ls (by decide) h), fun h => F47 (ls (by decide) h), fun h => F48 (ls (by decide) h), F49, F50, F51, F52, F53⟩
    · simp only [List.getElem?_toArray, List.getElem?_cons_zero, List.getElem?_cons_succ, Option.some.injEq] at ho
      subst ho
      obtain rfl := F45 (hd ⟨45, .data⟩ (by simp) rfl)
      obtain rfl := F40 (hd ⟨40, .guard⟩ (by simp) rfl)
      rcases HBB.out with ⟨rfl, rfl, rfl⟩ | ⟨hne, hnk, rfl⟩
      all_goals
        refine wpOp_step rfl (fun K hK => ?_)
        go_simp
        refine hK _ _ ?_
        exact ⟨_, _, _, _, _, _, _, _, _, _, _, _, _, _, _, _, _, _, _, _, _, _, _, _, _, _, _, _, _, _, _, _, _, _, _, _, _, _, _, _, _, _, _, _, _, _, _, _, _, rfl, fun h => F0 (ls (by decide) h), fun h => F1 (ls (by decide) h), fun h => F2 (ls (by decide) h), fun h => F3 (ls (by decide) h), fun h => F4 (ls (by decide) h), fun h => F5 (ls (by decide) h), fun h => F6 (ls (by decide) h), fun h => F7 (ls (by decide) h), fun h => F8 (ls (by decide) h), fun h => F9 (ls (by decide) h), fun h => F10 (ls (by decide) h), fun h => F11 (ls (by decide) h), fun h => F12 (ls (by decide) h), fun h => F13 (ls (by decide) h), fun h => F14 (ls (by decide) h), fun h => F15 (ls (by decide) h), fun h => F16 (ls (by decide) h), fun h => F17 (ls (by decide) h), fun h => F18 (ls (by decide) h), fun h => F19 (ls (by decide) h), fun h => F20 (ls (by decide) h), fun h => F21 (ls (by decide) h), fun h => F22 (ls (by decide) h), fun h => F23 (ls (by decide) h), fun h => F24 (ls (by decide) h), fun h => F25 (ls (by decide) h), fun h => F26 (ls (by decide) h), fun h => F27 (ls (by decide) h), fun h => F28 (ls (by decide) h), fun h => F29 (ls (by decide) h), fun h => F30 (ls (by decide) h), fun h => F31 (ls (by decide) h), fun h => F32 (ls (by decide) h), fun h => F33 (ls (by decide) h), fun h => F34 (ls (by decide) h), fun h => F35 (ls (by decide) h), fun h => F36 (ls (by decide) h), fun h => F37 (ls (by decide) h), fun h => F38 (ls (by decide) h), fun h => F39 (ls (by decide) h), fun h => F40 (ls (by decide) h), fun h => F41 (ls (by decide) h), fun h => F42 (ls (by decide) h), fun h => F43 (ls (by decide) h), fun h => F44 (ls (by decide) h), fun h => F45 (ls (by decide) h), fun _ => rfl, fun h => F47 (ls (by decide) h), fun h => F48 (ls (by decide) h), F49, F50, F51, F52, F53⟩
    · simp only [List.getElem?_toArray, List.getElem?_cons_zero, List.getElem?_cons_succ, Option.some.injEq] at ho
      subst ho
      obtain rfl := F43 (hd ⟨43, .data⟩ (by simp) rfl)
      obtain rfl := F46 (hd ⟨46, .data⟩ (by simp) rfl)
      obtain rfl := F40 (hd ⟨40, .guard⟩ (by simp) rfl)
      refine wpOp_step rfl (fun K hK => ?_)
      go_simp
      refine hK _ _ ?_
      exact ⟨_, _, _, _, _, _, _, _, _, _, _, _, _, _, _, _, _, _, _, _, _, _, _, _, _, _, _, _, _, _, _, _, _, _, _, _, _, _, _, _, _, _, _, _, _, _, _, _, _, rfl, fun h => F0 (ls (by decide) h), fun h => F1 (ls (by decide) h), fun h => F2 (ls (by decide) h), fun h => F3 (ls (by decide) h), fun h => F4 (ls (by decide) h), fun h => F5 (ls (by decide) h), fun h => F6 (ls (by decide) h), fun h => F7 (ls (by decide) h), fun h => F8 (ls (by decide) h), fun h => F9 (ls (by decide) h), fun h => F10 (ls (by decide) h), fun h => F11 (ls (by decide) h), fun h => F12 (ls (by decide) h), fun h => F13 (ls (by decide) h), fun h => F14 (ls (by decide) h), fun h => F15 (ls (by decide) h), fun h => F16 (ls (by decide) h), fun h => F17 (ls (by decide) h), fun h => F18 (ls (by decide) h), fun h => F19 (ls (by decide) h), fun h => F20 (ls (by decide) h), fun h => F21 (ls (by decide) h), fun h => F22 (ls (by decide) h), fun h => F23 (ls (by decide) h), fun h => F24 (ls (by decide) h), fun h => F25 (ls (by decide) h), fun h => F26 (ls (by decide) h), fun h => F27 (ls (by decide) h), fun h => F28 (ls (by decide) h), fun h => F29 (ls (by decide) h), fun h => F30 (ls (by decide) h), fun h => F31 (ls (by decide) h), fun h => F32 (ls (by decide) h), fun h => F33 (ls (by decide) h), fun h => F34 (ls (by decide) h), fun h => F35 (ls (by decide) h), fun h => F36 (ls (by decide) h), fun h => F37 (ls (by decide) h), fun h => F38 (ls (by decide) h), fun h => F39 (ls (by decide) h), fun h => F40 (ls (by decide) h), fun h => F41 (ls (by decide) h), fun h => F42 (ls (by decide) h), fun h => F43 (ls (by decide) h), fun h => F44 (ls (by decide) h), fun h => F45 (ls (by decide) h), fun h => F46 (ls (by decide) h), fun _ => rfl, fun h => F48 (ls (by decide) h), F49, F50, F51, F52, F53⟩
    · simp only [List.getElem?_toArray, List.getElem?_cons_zero, List.getElem?_cons_succ, Option.some.injEq] at ho
      subst ho
      obtain rfl := F40 (hd ⟨40, .data⟩ (by simp) rfl)
      obtain rfl := F47 (hd ⟨47, .data⟩ (by simp) rfl)
      refine wpOp_step rfl (fun K hK => ?_)
      go_simp
      refine hK _ _ ?_
      exact ⟨_, _, _, _, _, _, _, _, _, _, _, _, _, _, _, _, _, _, _, _, _, _, _, _, _, _, _, _, _, _, _, _, _, _, _, _, _, _, _, _, _, _, _, _, _, _, _, _, _, rfl, fun h => F0 (ls (by decide) h), fun h => F1 (ls (by decide) h), fun h => F2 (ls (by decide) h), fun h => F3 (ls (by decide) h), fun h => F4 (ls (by decide) h), fun h => F5 (ls (by decide) h), fun h => F6 (ls (by decide) h), fun h => F7 (ls (by decide) h), fun h => F8 (ls (by decide) h), fun h => F9 (ls (by decide) h), fun h => F10 (ls (by decide) h), fun h => F11 (ls (by decide) h), fun h => F12 (ls (by decide) h), fun h => F13 (ls (by decide) h), fun h => F14 (ls (by decide) h), fun h => F15 (ls (by decide) h), fun h => F16 (ls (by decide) h), fun h => F17 (ls (by decide) h), fun h => F18 (ls (by decide) h), fun h => F19 (ls (by decide) h), fun h => F20 (ls (by decide) h), fun h => F21 (ls (by decide) h), fun h => F22 (ls (by decide) h), fun h => F23 (ls (by decide) h), fun h => F24 (ls (by decide) h), fun h => F25 (ls (by decide) h), fun h => F26 (ls (by decide) h), fun h => F27 (ls (by decide) h), fun h => F28 (ls (by decide) h), fun h => F29 (ls (by decide) h), fun h => F30 (ls (by decide) h), fun h => F31 (ls (by decide) h), fun h => F32 (ls (by decide) h), fun h => F33 (ls (by decide) h), fun h => F34 (ls (by decide) h), fun h => F35 (ls (by decide) h), fun h => F36 (ls (by decide) h), fun h => F37 (ls (by decide) h), fun h => F38 (ls (by decide) h), fun h => F39 (ls (by decide) h), fun h => F40 (ls (by decide) h), fun h => F41 (ls (by decide) h), fun h => F42 (ls (by decide) h), fun h => F43 (ls (by decide) h), fun h => F44 (ls (by decide) h), fun h => F45 (ls (by decide) h), fun h => F46 (ls (by decide) h), fun h => F47 (ls (by decide) h), fun _ => rfl, F49, F50, F51, F52, F53⟩
  · intro listed A w hall hI
    unfold RbI at hI
    obtain ⟨s37, hI⟩ := hI
    obtain ⟨s38, hI⟩ := hI
    obtain ⟨s39, hI⟩ := hI
    obtain ⟨s40, hI⟩ := hI
    obtain ⟨s41, hI⟩ := hI
    obtain ⟨s42, hI⟩ := hI
    obtain ⟨s43, hI⟩ := hI
    obtain ⟨s44, hI⟩ := hI
    obtain ⟨s45, hI⟩ := hI
    obtain ⟨s46, hI⟩ := hI
    obtain ⟨s47, hI⟩ := hI
    obtain ⟨s48, hI⟩ := hI
    obtain ⟨s49, hI⟩ := hI
    obtain ⟨s50, hI⟩ := hI
    obtain ⟨s51, hI⟩ := hI
    obtain ⟨s52, hI⟩ := hI
    obtain ⟨s53, hI⟩ := hI
    obtain ⟨s54, hI⟩ := hI
    obtain ⟨s55, hI⟩ := hI
    obtain ⟨s56, hI⟩ := hI
    obtain ⟨s57, hI⟩ := hI
    obtain ⟨s58, hI⟩ := hI
    obtain ⟨s59, hI⟩ := hI
    obtain ⟨s60, hI⟩ := hI
    obtain ⟨s61, hI⟩ := hI
    obtain ⟨s62, hI⟩ := hI
    obtain ⟨s63, hI⟩ := hI
    obtain ⟨s64, hI⟩ := hI
    obtain ⟨s65, hI⟩ := hI
    obtain ⟨s66, hI⟩ := hI
    obtain ⟨s67, hI⟩ := hI
    obtain ⟨s68, hI⟩ := hI
    obtain ⟨s69, hI⟩ := hI
    obtain ⟨s70, hI⟩ := hI
    obtain ⟨s71, hI⟩ := hI
    obtain ⟨s72, hI⟩ := hI
    obtain ⟨s73, hI⟩ := hI
    obtain ⟨s74, hI⟩ := hI
    obtain ⟨s75, hI⟩ := hI
    obtain ⟨s76, hI⟩ := hI
    obtain ⟨s77, hI⟩ := hI
    obtain ⟨s78, hI⟩ := hI
    obtain ⟨s79, hI⟩ := hI
    obtain ⟨s80, hI⟩ := hI
    obtain ⟨s81, hI⟩ := hI
    obtain ⟨s82, hI⟩ := hI
    obtain ⟨s83, hI⟩ := hI
    obtain ⟨s84, hI⟩ := hI
    obtain ⟨s85, hI⟩ := hI
    obtain ⟨rfl, hI⟩ := hI
    obtain ⟨F0, hI⟩ := hI
    obtain ⟨F1, hI⟩ := hI
    obtain ⟨F2, hI⟩ := hI
    obtain ⟨F3, hI⟩ := hI
    obtain ⟨F4, hI⟩ := hI
    obtain ⟨F5, hI⟩ := hI
    obtain ⟨F6, hI⟩ := hI
    obtain ⟨F7, hI⟩ := hI
    obtain ⟨F8, hI⟩ := hI
    obtain ⟨F9, hI⟩ := hI
    obtain ⟨F10, hI⟩ := hI
    obtain ⟨F11, hI⟩ := hI
    obtain ⟨F12, hI⟩ := hI
    obtain ⟨F13, hI⟩ := hI
    obtain ⟨F14, hI⟩ := hI
    obtain ⟨F15, hI⟩ := hI
    obtain ⟨F16, hI⟩ := hI
    obtain ⟨F17, hI⟩ := hI
    obtain ⟨F18, hI⟩ := hI
    obtain ⟨F19, hI⟩ := hI
    obtain ⟨F20, hI⟩ := hI
    obtain ⟨F21, hI⟩ := hI
    obtain ⟨F22, hI⟩ := hI
    obtain ⟨F23, hI⟩ := hI
    obtain ⟨F24, hI⟩ := hI
    obtain ⟨F25, hI⟩ := hI
    obtain ⟨F26, hI⟩ := hI
    obtain ⟨F27, hI⟩ := hI
    obtain ⟨F28, hI⟩ := hI
    obtain ⟨F29, hI⟩ := hI
    obtain ⟨F30, hI⟩ := hI
    obtain ⟨F31, hI⟩ := hI
    obtain ⟨F32, hI⟩ := hI
    obtain ⟨F33, hI⟩ := hI
    obtain ⟨F34, hI⟩ := hI
    obtain ⟨F35, hI⟩ := hI
    obtain ⟨F36, hI⟩ := hI
    obtain ⟨F37, hI⟩ := hI
    obtain ⟨F38, hI⟩ := hI
    obtain ⟨F39, hI⟩ := hI
    obtain ⟨F40, hI⟩ := hI
    obtain ⟨F41, hI⟩ := hI
    obtain ⟨F42, hI⟩ := hI
    obtain ⟨F43, hI⟩ := hI
    obtain ⟨F44, hI⟩ := hI
    obtain ⟨F45, hI⟩ := hI
    obtain ⟨F46, hI⟩ := hI
    obtain ⟨F47, hI⟩ := hI
    obtain ⟨F48, hI⟩ := hI
    obtain ⟨F49, hI⟩ := hI
    obtain ⟨F50, hI⟩ := hI
    obtain ⟨F51, hI⟩ := hI
    obtain ⟨F52, hI⟩ := hI
    have F53 := hI; clear hI
    obtain rfl := F0 (hall 0 (by decide))
    obtain rfl := F1 (hall 1 (by decide))
    obtain rfl := F2 (hall 2 (by decide))
    obtain rfl := F3 (hall 3 (by decide))
    obtain rfl := F4 (hall 4 (by decide))
    obtain rfl := F5 (hall 5 (by decide))
    obtain rfl := F6 (hall 6 (by decide))
    obtain rfl := F7 (hall 7 (by decide))
    obtain rfl := F8 (hall 8 (by decide))
    obtain rfl := F9 (hall 9 (by decide))
    obtain rfl := F10 (hall 10 (by decide))
    obtain rfl := F11 (hall 11 (by decide))
    obtain rfl := F12 (hall 12 (by decide))
    obtain rfl := F13 (hall 13 (by decide))
    obtain rfl := F14 (hall 14 (by decide))
    obtain rfl := F15 (hall 15 (by decide))
    obtain rfl := F16 (hall 16 (by decide))
    obtain rfl := F17 (hall 17 (by decide))
    obtain rfl := F18 (hall 18 (by decide))
    obtain rfl := F19 (hall 19 (by decide))
    obtain rfl := F20 (hall 20 (by decide))
    obtain rfl := F21 (hall 21 (by decide))
    obtain rfl := F22 (hall 22 (by decide))
    obtain rfl := F23 (hall 23 (by decide))
    obtain rfl := F24 (hall 24 (by decide))
    obtain rfl := F25 (hall 25 (by decide))
    obtain rfl := F26 (hall 26 (by decide))
    obtain rfl := F27 (hall 27 (by decide))
    obtain rfl := F28 (hall 28 (by decide))
    obtain rfl := F29 (hall 29 (by decide))
    obtain rfl := F30 (hall 30 (by decide))
    obtain rfl := F31 (hall 31 (by decide))
    obtain rfl := F32 (hall 32 (by decide))
    obtain rfl := F33 (hall 33 (by decide))
    obtain rfl := F34 (hall 34 (by decide))
    obtain rfl := F35 (hall 35 (by decide))
    obtain rfl := F36 (hall 36 (by decide))
    obtain rfl := F37 (hall 37 (by decide))
    obtain rfl := F38 (hall 38 (by decide))
    obtain rfl := F39 (hall 39 (by decide))
    obtain rfl := F40 (hall 40 (by decide))
    obtain rfl := F41 (hall 41 (by decide))
    obtain rfl := F42 (hall 42 (by decide))
    obtain rfl := F43 (hall 43 (by decide))
    obtain rfl := F44 (hall 44 (by decide))
    obtain rfl := F45 (hall 45 (by decide))
    obtain rfl := F46 (hall 46 (by decide))
    obtain rfl := F47 (hall 47 (by decide))
    obtain rfl := F48 (hall 48 (by decide))
    have HB := F49
    have B0 := F50
    have B1 := F51
    have B2 := F52
    have B3 := F53
    clear hall F49 F50 F51 F52 F53 F0 F1 F2 F3 F4 F5 F6 F7 F8 F9 F10 F11 F12 F13 F14 F15 F16 F17 F18 F19 F20 F21 F22 F23 F24 F25 F26 F27 F28 F29 F30 F31 F32 F33 F34 F35 F36 F37 F38 F39 F40 F41 F42 F43 F44 F45 F46 F47 F48
    try dsimp only

    exact hQ _ B0 B1 B2 B3 HB
end Go.Proofs
