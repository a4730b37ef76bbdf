/- AtomNumbers: the end, where the rest is 0. No condition beyond what the theorems state. -/
import Derived.Test.YtemgabmafmehnaaGreatDoorLwBack
import Derived.Test.YtemgabmafmehnaaGreatDoorDeMath
namespace Go.Proofs.YtemgabmafmehnaaGreatDoor
open Go.Shelf Go.RowKit Go.Proofs.Wide Go.Proofs.Dig
set_option maxRecDepth 100000
set_option maxHeartbeats 16000000
theorem lk {listed : Array Bool} {i j : Nat} {p : Prop} (F : listed.getD j false = true → p) (h : i ≠ j := by decide) : (listed.setIfInBounds i true).getD j false = true → p := fun q => F (ls h q)
theorem cell_call {w w' : World} {B o : Nat} {v : Value} (h : w.cell? ⟨B, o, none⟩ = some v) (hb : Below w.heap.size w w') : w'.cell? ⟨B, o, none⟩ = some v := ((bcell hb).1 B o (World.block_lt_of_cell? w _ h)).trans h
def NzI (w0 : World) (k n c : Int) (s : ByteArray) (b r : Bool) (x y : Int) (ga gb gd g gi : Nat) (c0 c11 c12 c13 c14 c15 c16 c17 c18 c19 c20 c21 c22 c23 c24 c25 c26 c27 c28 c29 c30 c31 c32 c33 c34 c35 c36 c37 c38 c39 c40 c41 c42 c43 c44 c45 c46 c47 c48 c49 c50 c51 : Value) (listed : Array Bool) (A : Act) (w : World) : Prop := ∃ (s2 s52 s53 s54 s55 s56 s57 s58 s59 s60 s61 s62 s63 s64 s65 s66 s67 s68 s69 s70 s71 s72 s73 s74 s75 s76 s77 s78 s79 s80 s81 s82 s83 s84 s85 s86 s87 s88 s89 s90 s91 s92 s93 s94 s95 s96 s97 s98 s99 s100 s101 s102 s103 s104 s105 s106 : Value), A = { tmps := #[c0, .pointer (some ⟨ga, 0, none⟩), s2, .pointer (some ⟨gb, 0, none⟩), .int .i64 0, .pointer (some ⟨gi, 0, none⟩), .int .i64 0, .pointer (some ⟨gd, 0, none⟩), .int .i64 0, .pointer (some ⟨g, 0, none⟩), .int .i64 0, c11, c12, c13, c14, c15, c16, c17, c18, c19, c20, c21, c22, c23, c24, c25, c26, c27, c28, c29, c30, c31, c32, c33, c34, c35, c36, c37, c38, c39, c40, c41, c42, c43, c44, c45, c46, c47, c48, c49, c50, c51, s52, s53, s54, s55, s56, s57, s58, s59, s60, s61, s62, s63, s64, s65, s66, s67, s68, s69, s70, s71, s72, s73, s74, s75, s76, s77, s78, s79, s80, s81, s82, s83, s84, s85, s86, s87, s88, s89, s90, s91, s92, s93, s94, s95, s96, s97, s98, s99, s100, s101, s102, s103, s104, s105, s106], defers := [] } ∧
  (listed.getD 0 false = true → s52 = .int .i64 0) ∧
  (listed.getD 1 false = true → s53 = .bool true) ∧
  (listed.getD 2 false = true → s54 = .bool true) ∧
  (listed.getD 3 false = true → s55 = .int .i64 0) ∧
  (listed.getD 4 false = true → s56 = .bool true) ∧
  (listed.getD 5 false = true → s57 = .bool true) ∧
  (listed.getD 6 false = true → s58 = .bool true) ∧
  (listed.getD 7 false = true → s59 = .int .i64 0) ∧
  (listed.getD 8 false = true → s60 = .bool true) ∧
  (listed.getD 9 false = true → s61 = .bool true) ∧
  (listed.getD 10 false = true → s62 = .bool true) ∧
  (listed.getD 11 false = true → s63 = .int .i64 0) ∧
  (listed.getD 12 false = true → s64 = .bool true) ∧
  (listed.getD 13 false = true → s65 = .bool true) ∧
  (listed.getD 14 false = true → s66 = .bool true) ∧
  (listed.getD 15 false = true → s67 = .pointer (some ⟨gb, 4, none⟩)) ∧
  (listed.getD 16 false = true → s68 = .bool r) ∧
  (listed.getD 17 false = true → s69 = .pointer (some ⟨ga, 1, none⟩)) ∧
  (listed.getD 18 false = true → s70 = .int .i64 n) ∧
  (listed.getD 19 false = true → s71 = .bool (n != 0)) ∧
  (listed.getD 20 false = true → s72 = .bool true) ∧
  (listed.getD 21 false = true → s73 = .bool true) ∧
  (listed.getD 22 false = true → s74 = .bool true) ∧
  (listed.getD 23 false = true → s75 = .agg #[.int .i64 2, .int .i64 n, .int .i64 c, .string ⟨#[]⟩, .bool false]) ∧
  (listed.getD 24 false = true → s76 = .agg #[.int .i64 n, .int .i64 c]) ∧
  (listed.getD 25 false = true → s77 = .agg #[.int .i64 k, .int .i64 n, .int .i64 c, .string s, .bool b]) ∧
  (listed.getD 26 false = true → s78 = .agg #[.int .i64 n, .int .i64 c]) ∧
  (listed.getD 27 false = true → s79 = .bool true) ∧
  (listed.getD 28 false = true → s80 = .bool true) ∧
  (listed.getD 29 false = true → s81 = .bool true) ∧
  (listed.getD 30 false = true → s82 = .agg #[.int .i64 0, .int .i64 0]) ∧
  (listed.getD 31 false = true → s83 = .agg #[.int .i64 1, .int .i64 0]) ∧
  (listed.getD 32 false = true → s84 = .int .i64 x) ∧
  (listed.getD 33 false = true → s85 = .bool true) ∧
  (listed.getD 34 false = true → s86 = .bool true) ∧
  (listed.getD 35 false = true → s87 = .bool true) ∧
  (listed.getD 36 false = true → s88 = .agg #[.int .i64 0, .int .i64 0]) ∧
  (listed.getD 37 false = true → s89 = .agg #[.int .i64 (-1), .int .i64 0]) ∧
  (listed.getD 38 false = true → s90 = .int .i64 y) ∧
  (listed.getD 39 false = true → s91 = .bool true) ∧
  (listed.getD 40 false = true → s92 = .bool true) ∧
  (listed.getD 41 false = true → s93 = .bool true) ∧
  (listed.getD 42 false = true → s94 = .pointer (some ⟨g, 0, none⟩)) ∧
  (listed.getD 43 false = true → s95 = .int .i64 0) ∧
  (listed.getD 44 false = true → s96 = .bool true) ∧
  (listed.getD 45 false = true → s97 = .bool true) ∧
  (listed.getD 46 false = true → s98 = undef) ∧
  (listed.getD 47 false = true → s99 = undef) ∧
  (listed.getD 48 false = true → s100 = undef) ∧
  (listed.getD 49 false = true → s101 = undef) ∧
  (listed.getD 50 false = true → s102 = undef) ∧
  (listed.getD 51 false = true → s103 = undef) ∧
  (listed.getD 52 false = true → s104 = undef) ∧
  (listed.getD 53 false = true → s105 = .bool true) ∧
  (listed.getD 54 false = true → s106 = .bool true) ∧
  (listed.getD 55 false = true → s2 = .bool true) ∧
  Below w0.heap.size w0 w ∧
  w.cell? ⟨ga, 0, none⟩ = some (.int .i64 k) ∧
  w.cell? ⟨ga, 1, none⟩ = some (.int .i64 n) ∧
  w.cell? ⟨ga, 2, none⟩ = some (.int .i64 c) ∧
  w.cell? ⟨ga, 3, none⟩ = some (.string s) ∧
  w.cell? ⟨ga, 4, none⟩ = some (.bool b) ∧
  w.cell? ⟨gb, 4, none⟩ = some (.bool r) ∧
  w.cell? ⟨gd, 0, none⟩ = some (.int .i64 2) ∧
  w.cell? ⟨gd, 1, none⟩ = some (.int .i64 n) ∧
  w.cell? ⟨gd, 2, none⟩ = some (.int .i64 c) ∧
  w.cell? ⟨gd, 3, none⟩ = some (.string ⟨#[]⟩) ∧
  w.cell? ⟨gd, 4, none⟩ = some (.bool false) ∧
  w.cell? ⟨g, 0, none⟩ = some (.int .i64 0) ∧
  w.cell? ⟨g, 1, none⟩ = some (.int .i64 0)
set_option maxRecDepth 100000 in
set_option maxHeartbeats 16000000 in
theorem Nz_region (k n c : Int) (s : ByteArray) (b r : Bool) (x y : Int) (ga gb gd g gi : Nat) (x2 x52 x53 x54 x55 x56 x57 x58 x59 x60 x61 x62 x63 x64 x65 x66 x67 x68 x69 x70 x71 x72 x73 x74 x75 x76 x77 x78 x79 x80 x81 x82 x83 x84 x85 x86 x87 x88 x89 x90 x91 x92 x93 x94 x95 x96 x97 x98 x99 x100 x101 x102 x103 x104 x105 x106 : Value) (c0 c11 c12 c13 c14 c15 c16 c17 c18 c19 c20 c21 c22 c23 c24 c25 c26 c27 c28 c29 c30 c31 c32 c33 c34 c35 c36 c37 c38 c39 c40 c41 c42 c43 c44 c45 c46 c47 c48 c49 c50 c51 : Value) (w0 W : World) (Q : Exit → Act → World → Prop) (hb0 : Below w0.heap.size w0 W) (C0 : W.cell? ⟨ga, 0, none⟩ = some (.int .i64 k)) (C1 : W.cell? ⟨ga, 1, none⟩ = some (.int .i64 n)) (C2 : W.cell? ⟨ga, 2, none⟩ = some (.int .i64 c)) (C3 : W.cell? ⟨ga, 3, none⟩ = some (.string s)) (C4 : W.cell? ⟨ga, 4, none⟩ = some (.bool b)) (C5 : W.cell? ⟨gb, 4, none⟩ = some (.bool r)) (C6 : W.cell? ⟨gd, 0, none⟩ = some (.int .i64 2)) (C7 : W.cell? ⟨gd, 1, none⟩ = some (.int .i64 n)) (C8 : W.cell? ⟨gd, 2, none⟩ = some (.int .i64 c)) (C9 : W.cell? ⟨gd, 3, none⟩ = some (.string ⟨#[]⟩)) (C10 : W.cell? ⟨gd, 4, none⟩ = some (.bool false)) (C11 : W.cell? ⟨g, 0, none⟩ = some (.int .i64 0)) (C12 : W.cell? ⟨g, 1, none⟩ = some (.int .i64 0)) (HT : Hid (TT w0)) (NA : Hid (GT 23 #[.agg #[.int .i64 k, .int .i64 n, .int .i64 c, .string s, .bool b]] (.agg #[.int .i64 n, .int .i64 c]))) (ND : Hid (GT 23 #[.agg #[.int .i64 2, .int .i64 n, .int .i64 c, .string ⟨#[]⟩, .bool false]] (.agg #[.int .i64 n, .int .i64 c]))) (H1 : Hid (Gives 28 #[.agg #[.int .i64 0, .int .i64 0], .agg #[.int .i64 1, .int .i64 0]] (.int .i64 x))) (H2 : Hid (Gives 28 #[.agg #[.int .i64 0, .int .i64 0], .agg #[.int .i64 (-1), .int .i64 0]] (.int .i64 y))) (hx : decide (x < 0) = true) (hy : decide (0 < y) = true) (hbb : (r == (n != 0)) = true)
    (hQ : ∀ (w : World) , (True) → Below w0.heap.size w0 w → Q .normal { tmps := #[c0, .pointer (some ⟨ga, 0, none⟩), .bool true, .pointer (some ⟨gb, 0, none⟩), .int .i64 0, .pointer (some ⟨gi, 0, none⟩), .int .i64 0, .pointer (some ⟨gd, 0, none⟩), .int .i64 0, .pointer (some ⟨g, 0, none⟩), .int .i64 0, c11, c12, c13, c14, c15, c16, c17, c18, c19, c20, c21, c22, c23, c24, c25, c26, c27, c28, c29, c30, c31, c32, c33, c34, c35, c36, c37, c38, c39, c40, c41, c42, c43, c44, c45, c46, c47, c48, c49, c50, c51, .int .i64 0, .bool true, .bool true, .int .i64 0, .bool true, .bool true, .bool true, .int .i64 0, .bool true, .bool true, .bool true, .int .i64 0, .bool true, .bool true, .bool true, .pointer (some ⟨gb, 4, none⟩), .bool r, .pointer (some ⟨ga, 1, none⟩), .int .i64 n, .bool (n != 0), .bool true, .bool true, .bool true, .agg #[.int .i64 2, .int .i64 n, .int .i64 c, .string ⟨#[]⟩, .bool false], .agg #[.int .i64 n, .int .i64 c], .agg #[.int .i64 k, .int .i64 n, .int .i64 c, .string s, .bool b], .agg #[.int .i64 n, .int .i64 c], .bool true, .bool true, .bool true, .agg #[.int .i64 0, .int .i64 0], .agg #[.int .i64 1, .int .i64 0], .int .i64 x, .bool true, .bool true, .bool true, .agg #[.int .i64 0, .int .i64 0], .agg #[.int .i64 (-1), .int .i64 0], .int .i64 y, .bool true, .bool true, .bool true, .pointer (some ⟨g, 0, none⟩), .int .i64 0, .bool true, .bool true, undef, undef, undef, undef, undef, undef, undef, .bool true, .bool true], defers := [] } w) :
    Code.wp Tryz.prog ((Tryz.f6.body.bind (regionOf 7)).getD .skip) Q { tmps := #[c0, .pointer (some ⟨ga, 0, none⟩), x2, .pointer (some ⟨gb, 0, none⟩), .int .i64 0, .pointer (some ⟨gi, 0, none⟩), .int .i64 0, .pointer (some ⟨gd, 0, none⟩), .int .i64 0, .pointer (some ⟨g, 0, none⟩), .int .i64 0, c11, c12, c13, c14, c15, c16, c17, c18, c19, c20, c21, c22, c23, c24, c25, c26, c27, c28, c29, c30, c31, c32, c33, c34, c35, c36, c37, c38, c39, c40, c41, c42, c43, c44, c45, c46, c47, c48, c49, c50, c51, x52, x53, x54, x55, x56, x57, x58, x59, x60, x61, x62, x63, x64, x65, x66, x67, x68, x69, x70, x71, x72, x73, x74, x75, x76, x77, x78, x79, x80, x81, x82, x83, x84, x85, x86, x87, x88, x89, x90, x91, x92, x93, x94, x95, x96, x97, x98, x99, x100, x101, x102, x103, x104, x105, x106], defers := [] } W := by
  conv => arg 2; whnf
  refine wp_region_inv (by kernel_rfl) (by kernel_rfl) (NzI w0 k n c s b r x y ga gb gd g gi c0 c11 c12 c13 c14 c15 c16 c17 c18 c19 c20 c21 c22 c23 c24 c25 c26 c27 c28 c29 c30 c31 c32 c33 c34 c35 c36 c37 c38 c39 c40 c41 c42 c43 c44 c45 c46 c47 c48 c49 c50 c51) ?_ ?_ ?_
  · exact ⟨_, _, _, _, _, _, _, _, _, _, _, _, _, _, _, _, _, _, _, _, _, _, _, _, _, _, _, _, _, _, _, _, _, _, _, _, _, _, _, _, _, _, _, _, _, _, _, _, _, _, _, _, _, _, _, _, rfl, fun h => absurd h l0, fun h => absurd h l0, fun h => absurd h l0, fun h => absurd h l0, fun h => absurd h l0, fun h => absurd h l0, fun h => absurd h l0, fun h => absurd h l0, fun h => absurd h l0, fun h => absurd h l0, fun h => absurd h l0, fun h => absurd h l0, fun h => absurd h l0, fun h => absurd h l0, fun h => absurd h l0, fun h => absurd h l0, fun h => absurd h l0, fun h => absurd h l0, fun h => absurd h l0, fun h => absurd h l0, fun h => absurd h l0, fun h => absurd h l0, fun h => absurd h l0, fun h => absurd h l0, fun h => absurd h l0, fun h => absurd h l0, fun h => absurd h l0, fun h => absurd h l0, fun h => absurd h l0, fun h => absurd h l0, fun h => absurd h l0, fun h => absurd h l0, fun h => absurd h l0, fun h => absurd h l0, fun h => absurd h l0, fun h => absurd h l0, fun h => absurd h l0, fun h => absurd h l0, fun h => absurd h l0, fun h => absurd h l0, fun h => absurd h l0, fun h => absurd h l0, fun h => absurd h l0, fun h => absurd h l0, fun h => absurd h l0, fun h => absurd h l0, fun h => absurd h l0, fun h => absurd h l0, fun h => absurd h l0, fun h => absurd h l0, fun h => absurd h l0, fun h => absurd h l0, fun h => absurd h l0, fun h => absurd h l0, fun h => absurd h l0, fun h => absurd h l0, bdr hb0, C0, C1, C2, C3, C4, C5, C6, C7, C8, C9, C10, C11, C12⟩
  · intro i o listed A w hi ho hd hn hI
    unfold NzI at hI
    obtain ⟨s2, hI⟩ := hI
    obtain ⟨s52, hI⟩ := hI
    obtain ⟨s53, hI⟩ := hI
    obtain ⟨s54, hI⟩ := hI
    obtain ⟨s55, hI⟩ := hI
    obtain ⟨s56, hI⟩ := hI
    obtain ⟨s57, hI⟩ := hI
    obtain ⟨s58, hI⟩ := hI
    obtain ⟨s59, hI⟩ := hI
    obtain ⟨s60, hI⟩ := hI
    obtain ⟨s61, hI⟩ := hI
    obtain ⟨s62, hI⟩ := hI
    obtain ⟨s63, hI⟩ := hI
    obtain ⟨s64, hI⟩ := hI
    obtain ⟨s65, hI⟩ := hI
    obtain ⟨s66, hI⟩ := hI
    obtain ⟨s67, hI⟩ := hI
    obtain ⟨s68, hI⟩ := hI
    obtain ⟨s69, hI⟩ := hI
    obtain ⟨s70, hI⟩ := hI
    obtain ⟨s71, hI⟩ := hI
    obtain ⟨s72, hI⟩ := hI
    obtain ⟨s73, hI⟩ := hI
    obtain ⟨s74, hI⟩ := hI
    obtain ⟨s75, hI⟩ := hI
    obtain ⟨s76, hI⟩ := hI
    obtain ⟨s77, hI⟩ := hI
    obtain ⟨s78, hI⟩ := hI
    obtain ⟨s79, hI⟩ := hI
    obtain ⟨s80, hI⟩ := hI
    obtain ⟨s81, hI⟩ := hI
    obtain ⟨s82, hI⟩ := hI
    obtain ⟨s83, hI⟩ := hI
    obtain ⟨s84, hI⟩ := hI
    obtain ⟨s85, hI⟩ := hI
    obtain ⟨s86, hI⟩ := hI
    obtain ⟨s87, hI⟩ := hI
    obtain ⟨s88, hI⟩ := hI
    obtain ⟨s89, hI⟩ := hI
    obtain ⟨s90, hI⟩ := hI
    obtain ⟨s91, hI⟩ := hI
    obtain ⟨s92, hI⟩ := hI
    obtain ⟨s93, hI⟩ := hI
    obtain ⟨s94, hI⟩ := hI
    obtain ⟨s95, hI⟩ := hI
    obtain ⟨s96, hI⟩ := hI
    obtain ⟨s97, hI⟩ := hI
    obtain ⟨s98, hI⟩ := hI
    obtain ⟨s99, hI⟩ := hI
    obtain ⟨s100, hI⟩ := hI
    obtain ⟨s101, hI⟩ := hI
    obtain ⟨s102, hI⟩ := hI
    obtain ⟨s103, hI⟩ := hI
    obtain ⟨s104, hI⟩ := hI
    obtain ⟨s105, hI⟩ := hI
    obtain ⟨s106, hI⟩ := hI
    obtain ⟨rfl, hI⟩ := hI
    obtain ⟨F0, hI⟩ := hI
    obtain ⟨F1, hI⟩ := hI
    obtain ⟨F2, hI⟩ := hI
    obtain ⟨F3, hI⟩ := hI
    obtain ⟨F4, hI⟩ := hI
    obtain ⟨F5, hI⟩ := hI
    obtain ⟨F6, hI⟩ := hI
    obtain ⟨F7, hI⟩ := hI
    obtain ⟨F8, hI⟩ := hI
    obtain ⟨F9, hI⟩ := hI
    obtain ⟨F10, hI⟩ := hI
    obtain ⟨F11, hI⟩ := hI
    obtain ⟨F12, hI⟩ := hI
    obtain ⟨F13, hI⟩ := hI
    obtain ⟨F14, hI⟩ := hI
    obtain ⟨F15, hI⟩ := hI
    obtain ⟨F16, hI⟩ := hI
    obtain ⟨F17, hI⟩ := hI
    obtain ⟨F18, hI⟩ := hI
    obtain ⟨F19, hI⟩ := hI
    obtain ⟨F20, hI⟩ := hI
    obtain ⟨F21, hI⟩ := hI
    obtain ⟨F22, hI⟩ := hI
    obtain ⟨F23, hI⟩ := hI
    obtain ⟨F24, hI⟩ := hI
    obtain ⟨F25, hI⟩ := hI
    obtain ⟨F26, hI⟩ := hI
    obtain ⟨F27, hI⟩ := hI
    obtain ⟨F28, hI⟩ := hI
    obtain ⟨F29, hI⟩ := hI
    obtain ⟨F30, hI⟩ := hI
    obtain ⟨F31, hI⟩ := hI
    obtain ⟨F32, hI⟩ := hI
    obtain ⟨F33, hI⟩ := hI
    obtain ⟨F34, hI⟩ := hI
    obtain ⟨F35, hI⟩ := hI
    obtain ⟨F36, hI⟩ := hI
    obtain ⟨F37, hI⟩ := hI
    obtain ⟨F38, hI⟩ := hI
    obtain ⟨F39, hI⟩ := hI
    obtain ⟨F40, hI⟩ := hI
    obtain ⟨F41, hI⟩ := hI
    obtain ⟨F42, hI⟩ := hI
    obtain ⟨F43, hI⟩ := hI
    obtain ⟨F44, hI⟩ := hI
    obtain ⟨F45, hI⟩ := hI
    obtain ⟨F46, hI⟩ := hI
    obtain ⟨F47, hI⟩ := hI
    obtain ⟨F48, hI⟩ := hI
    obtain ⟨F49, hI⟩ := hI
    obtain ⟨F50, hI⟩ := hI
    obtain ⟨F51, hI⟩ := hI
    obtain ⟨F52, hI⟩ := hI
    obtain ⟨F53, hI⟩ := hI
    obtain ⟨F54, hI⟩ := hI
    obtain ⟨F55, hI⟩ := hI
    obtain ⟨F56, hI⟩ := hI
    obtain ⟨F57, hI⟩ := hI
    obtain ⟨F58, hI⟩ := hI
    obtain ⟨F59, hI⟩ := hI
    obtain ⟨F60, hI⟩ := hI
    obtain ⟨F61, hI⟩ := hI
    obtain ⟨F62, hI⟩ := hI
    obtain ⟨F63, hI⟩ := hI
    obtain ⟨F64, hI⟩ := hI
    obtain ⟨F65, hI⟩ := hI
    obtain ⟨F66, hI⟩ := hI
    obtain ⟨F67, hI⟩ := hI
    obtain ⟨F68, hI⟩ := hI
    have F69 := hI; clear hI
    have hi' : i < 56 := hi
    clear hi
    rcases (by omega : i = 0 ∨ i = 1 ∨ i = 2 ∨ i = 3 ∨ i = 4 ∨ i = 5 ∨ i = 6 ∨ i = 7 ∨ i = 8 ∨ i = 9 ∨ i = 10 ∨ i = 11 ∨ i = 12 ∨ i = 13 ∨ i = 14 ∨ i = 15 ∨ i = 16 ∨ i = 17 ∨ i = 18 ∨ i = 19 ∨ i = 20 ∨ i = 21 ∨ i = 22 ∨ i = 23 ∨ i = 24 ∨ i = 25 ∨ i = 26 ∨ i = 27 ∨ i = 28 ∨ i = 29 ∨ i = 30 ∨ i = 31 ∨ i = 32 ∨ i = 33 ∨ i = 34 ∨ i = 35 ∨ i = 36 ∨ i = 37 ∨ i = 38 ∨ i = 39 ∨ i = 40 ∨ i = 41 ∨ i = 42 ∨ i = 43 ∨ i = 44 ∨ i = 45 ∨ i = 46 ∨ i = 47 ∨ i = 48 ∨ i = 49 ∨ i = 50 ∨ i = 51 ∨ i = 52 ∨ i = 53 ∨ i = 54 ∨ i = 55) with rfl | rfl | rfl | rfl | rfl | rfl | rfl | rfl | rfl | rfl | rfl | rfl | rfl | rfl | rfl | rfl | rfl | rfl | rfl | rfl | rfl | rfl | rfl | rfl | rfl | rfl | rfl | rfl | rfl | rfl | rfl | rfl | rfl | rfl | rfl | rfl | rfl | rfl | rfl | rfl | rfl | rfl | rfl | rfl | rfl | rfl | rfl | rfl | rfl | rfl | rfl | rfl | rfl | rfl | rfl | rfl
    · simp only [List.getElem?_toArray, List.getElem?_cons_zero, Option.some.injEq] at ho
      subst ho
      refine wpOp_step rfl (fun K hK => ?_)
      go_simp
      refine hK _ _ ?_
      exact ⟨_, _, _, _, _, _, _, _, _, _, _, _, _, _, _, _, _, _, _, _, _, _, _, _, _, _, _, _, _, _, _, _, _, _, _, _, _, _, _, _, _, _, _, _, _, _, _, _, _, _, _, _, _, _, _, _, rfl, fun _ => rfl, lk F1, lk F2, lk F3, lk F4, lk F5, lk F6, lk F7, lk F8, lk F9, lk F10, lk F11, lk F12, lk F13, lk F14, lk F15, lk F16, lk F17, lk F18, lk F19, lk F20, lk F21, lk F22, lk F23, lk F24, lk F25, lk F26, lk F27, lk F28, lk F29, lk F30, lk F31, lk F32, lk F33, lk F34, lk F35, lk F36, lk F37, lk F38, lk F39, lk F40, lk F41, lk F42, lk F43, lk F44, lk F45, lk F46, lk F47, lk F48, lk F49, lk F50, lk F51, lk F52, lk F53, lk F54, lk F55, F56, F57, F58, F59, F60, F61, F62, F63, F64, F65, F66, F67, F68, F69⟩
    · simp only [List.getElem?_toArray, List.getElem?_cons_zero, List.getElem?_cons_succ, Option.some.injEq] at ho
      subst ho
      obtain rfl := F0 (hd ⟨0, .data⟩ (by simp) rfl)
      refine wpOp_step rfl (fun K hK => ?_)
      go_simp
      refine hK _ _ ?_
      exact ⟨_, _, _, _, _, _, _, _, _, _, _, _, _, _, _, _, _, _, _, _, _, _, _, _, _, _, _, _, _, _, _, _, _, _, _, _, _, _, _, _, _, _, _, _, _, _, _, _, _, _, _, _, _, _, _, _, rfl, lk F0, fun _ => rfl, lk F2, lk F3, lk F4, lk F5, lk F6, lk F7, lk F8, lk F9, lk F10, lk F11, lk F12, lk F13, lk F14, lk F15, lk F16, lk F17, lk F18, lk F19, lk F20, lk F21, lk F22, lk F23, lk F24, lk F25, lk F26, lk F27, lk F28, lk F29, lk F30, lk F31, lk F32, lk F33, lk F34, lk F35, lk F36, lk F37, lk F38, lk F39, lk F40, lk F41, lk F42, lk F43, lk F44, lk F45, lk F46, lk F47, lk F48, lk F49, lk F50, lk F51, lk F52, lk F53, lk F54, lk F55, F56, F57, F58, F59, F60, F61, F62, F63, F64, F65, F66, F67, F68, F69⟩
    · simp only [List.getElem?_toArray, List.getElem?_cons_zero, List.getElem?_cons_succ, Option.some.injEq] at ho
      subst ho
      obtain rfl := F1 (hd ⟨1, .data⟩ (by simp) rfl)
      refine wpOp_step rfl (fun K hK => ?_)
      go_simp
      refine hK _ _ ?_
      exact ⟨_, _, _, _, _, _, _, _, _, _, _, _, _, _, _, _, _, _, _, _, _, _, _, _, _, _, _, _, _, _, _, _, _, _, _, _, _, _, _, _, _, _, _, _, _, _, _, _, _, _, _, _, _, _, _, _, rfl, lk F0, lk F1, fun _ => rfl, lk F3, lk F4, lk F5, lk F6, lk F7, lk F8, lk F9, lk F10, lk F11, lk F12, lk F13, lk F14, lk F15, lk F16, lk F17, lk F18, lk F19, lk F20, lk F21, lk F22, lk F23, lk F24, lk F25, lk F26, lk F27, lk F28, lk F29, lk F30, lk F31, lk F32, lk F33, lk F34, lk F35, lk F36, lk F37, lk F38, lk F39, lk F40, lk F41, lk F42, lk F43, lk F44, lk F45, lk F46, lk F47, lk F48, lk F49, lk F50, lk F51, lk F52, lk F53, lk F54, lk F55, F56, F57, F58, F59, F60, F61, F62, F63, F64, F65, F66, F67, F68, F69⟩
    · simp only [List.getElem?_toArray, List.getElem?_cons_zero, List.getElem?_cons_succ, Option.some.injEq] at ho
      subst ho
      obtain rfl := F2 (hd ⟨2, .guard⟩ (by simp) rfl)
      refine wpOp_step rfl (fun K hK => ?_)
      go_simp
      refine hK _ _ ?_
      exact ⟨_, _, _, _, _, _, _, _, _, _, _, _, _, _, _, _, _, _, _, _, _, _, _, _, _, _, _, _, _, _, _, _, _, _, _, _, _, _, _, _, _, _, _, _, _, _, _, _, _, _, _, _, _, _, _, _, rfl, lk F0, lk F1, lk F2, fun _ => rfl, lk F4, lk F5, lk F6, lk F7, lk F8, lk F9, lk F10, lk F11, lk F12, lk F13, lk F14, lk F15, lk F16, lk F17, lk F18, lk F19, lk F20, lk F21, lk F22, lk F23, lk F24, lk F25, lk F26, lk F27, lk F28, lk F29, lk F30, lk F31, lk F32, lk F33, lk F34, lk F35, lk F36, lk F37, lk F38, lk F39, lk F40, lk F41, lk F42, lk F43, lk F44, lk F45, lk F46, lk F47, lk F48, lk F49, lk F50, lk F51, lk F52, lk F53, lk F54, lk F55, F56, F57, F58, F59, F60, F61, F62, F63, F64, F65, F66, F67, F68, F69⟩
    · simp only [List.getElem?_toArray, List.getElem?_cons_zero, List.getElem?_cons_succ, Option.some.injEq] at ho
      subst ho
      obtain rfl := F3 (hd ⟨3, .data⟩ (by simp) rfl)
      obtain rfl := F2 (hd ⟨2, .guard⟩ (by simp) rfl)
      refine wpOp_step rfl (fun K hK => ?_)
      go_simp
      refine hK _ _ ?_
      exact ⟨_, _, _, _, _, _, _, _, _, _, _, _, _, _, _, _, _, _, _, _, _, _, _, _, _, _, _, _, _, _, _, _, _, _, _, _, _, _, _, _, _, _, _, _, _, _, _, _, _, _, _, _, _, _, _, _, rfl, lk F0, lk F1, lk F2, lk F3, fun _ => rfl, lk F5, lk F6, lk F7, lk F8, lk F9, lk F10, lk F11, lk F12, lk F13, lk F14, lk F15, lk F16, lk F17, lk F18, lk F19, lk F20, lk F21, lk F22, lk F23, lk F24, lk F25, lk F26, lk F27, lk F28, lk F29, lk F30, lk F31, lk F32, lk F33, lk F34, lk F35, lk F36, lk F37, lk F38, lk F39, lk F40, lk F41, lk F42, lk F43, lk F44, lk F45, lk F46, lk F47, lk F48, lk F49, lk F50, lk F51, lk F52, lk F53, lk F54, lk F55, F56, F57, F58, F59, F60, F61, F62, F63, F64, F65, F66, F67, F68, F69⟩
    · simp only [List.getElem?_toArray, List.getElem?_cons_zero, List.getElem?_cons_succ, Option.some.injEq] at ho
      subst ho
      obtain rfl := F2 (hd ⟨2, .data⟩ (by simp) rfl)
      obtain rfl := F4 (hd ⟨4, .data⟩ (by simp) rfl)
      refine wpOp_step rfl (fun K hK => ?_)
      go_simp
      refine hK _ _ ?_
      exact ⟨_, _, _, _, _, _, _, _, _, _, _, _, _, _, _, _, _, _, _, _, _, _, _, _, _, _, _, _, _, _, _, _, _, _, _, _, _, _, _, _, _, _, _, _, _, _, _, _, _, _, _, _, _, _, _, _, rfl, lk F0, lk F1, lk F2, lk F3, lk F4, fun _ => rfl, lk F6, lk F7, lk F8, lk F9, lk F10, lk F11, lk F12, lk F13, lk F14, lk F15, lk F16, lk F17, lk F18, lk F19, lk F20, lk F21, lk F22, lk F23, lk F24, lk F25, lk F26, lk F27, lk F28, lk F29, lk F30, lk F31, lk F32, lk F33, lk F34, lk F35, lk F36, lk F37, lk F38, lk F39, lk F40, lk F41, lk F42, lk F43, lk F44, lk F45, lk F46, lk F47, lk F48, lk F49, lk F50, lk F51, lk F52, lk F53, lk F54, lk F55, F56, F57, F58, F59, F60, F61, F62, F63, F64, F65, F66, F67, F68, F69⟩
    · simp only [List.getElem?_toArray, List.getElem?_cons_zero, List.getElem?_cons_succ, Option.some.injEq] at ho
      subst ho
      obtain rfl := F5 (hd ⟨5, .data⟩ (by simp) rfl)
      refine wpOp_step rfl (fun K hK => ?_)
      go_simp
      refine hK _ _ ?_
      exact ⟨_, _, _, _, _, _, _, _, _, _, _, _, _, _, _, _, _, _, _, _, _, _, _, _, _, _, _, _, _, _, _, _, _, _, _, _, _, _, _, _, _, _, _, _, _, _, _, _, _, _, _, _, _, _, _, _, rfl, lk F0, lk F1, lk F2, lk F3, lk F4, lk F5, fun _ => rfl, lk F7, lk F8, lk F9, lk F10, lk F11, lk F12, lk F13, lk F14, lk F15, lk F16, lk F17, lk F18, lk F19, lk F20, lk F21, lk F22, lk F23, lk F24, lk F25, lk F26, lk F27, lk F28, lk F29, lk F30, lk F31, lk F32, lk F33, lk F34, lk F35, lk F36, lk F37, lk F38, lk F39, lk F40, lk F41, lk F42, lk F43, lk F44, lk F45, lk F46, lk F47, lk F48, lk F49, lk F50, lk F51, lk F52, lk F53, lk F54, lk F55, F56, F57, F58, F59, F60, F61, F62, F63, F64, F65, F66, F67, F68, F69⟩
    · simp only [List.getElem?_toArray, List.getElem?_cons_zero, List.getElem?_cons_succ, Option.some.injEq] at ho
      subst ho
      obtain rfl := F6 (hd ⟨6, .guard⟩ (by simp) rfl)
      refine wpOp_step rfl (fun K hK => ?_)
      go_simp
      refine hK _ _ ?_
      exact ⟨_, _, _, _, _, _, _, _, _, _, _, _, _, _, _, _, _, _, _, _, _, _, _, _, _, _, _, _, _, _, _, _, _, _, _, _, _, _, _, _, _, _, _, _, _, _, _, _, _, _, _, _, _, _, _, _, rfl, lk F0, lk F1, lk F2, lk F3, lk F4, lk F5, lk F6, fun _ => rfl, lk F8, lk F9, lk F10, lk F11, lk F12, lk F13, lk F14, lk F15, lk F16, lk F17, lk F18, lk F19, lk F20, lk F21, lk F22, lk F23, lk F24, lk F25, lk F26, lk F27, lk F28, lk F29, lk F30, lk F31, lk F32, lk F33, lk F34, lk F35, lk F36, lk F37, lk F38, lk F39, lk F40, lk F41, lk F42, lk F43, lk F44, lk F45, lk F46, lk F47, lk F48, lk F49, lk F50, lk F51, lk F52, lk F53, lk F54, lk F55, F56, F57, F58, F59, F60, F61, F62, F63, F64, F65, F66, F67, F68, F69⟩
    · simp only [List.getElem?_toArray, List.getElem?_cons_zero, List.getElem?_cons_succ, Option.some.injEq] at ho
      subst ho
      obtain rfl := F7 (hd ⟨7, .data⟩ (by simp) rfl)
      obtain rfl := F6 (hd ⟨6, .guard⟩ (by simp) rfl)
      refine wpOp_step rfl (fun K hK => ?_)
      go_simp
      refine hK _ _ ?_
      exact ⟨_, _, _, _, _, _, _, _, _, _, _, _, _, _, _, _, _, _, _, _, _, _, _, _, _, _, _, _, _, _, _, _, _, _, _, _, _, _, _, _, _, _, _, _, _, _, _, _, _, _, _, _, _, _, _, _, rfl, lk F0, lk F1, lk F2, lk F3, lk F4, lk F5, lk F6, lk F7, fun _ => rfl, lk F9, lk F10, lk F11, lk F12, lk F13, lk F14, lk F15, lk F16, lk F17, lk F18, lk F19, lk F20, lk F21, lk F22, lk F23, lk F24, lk F25, lk F26, lk F27, lk F28, lk F29, lk F30, lk F31, lk F32, lk F33, lk F34, lk F35, lk F36, lk F37, lk F38, lk F39, lk F40, lk F41, lk F42, lk F43, lk F44, lk F45, lk F46, lk F47, lk F48, lk F49, lk F50, lk F51, lk F52, lk F53, lk F54, lk F55, F56, F57, F58, F59, F60, F61, F62, F63, F64, F65, F66, F67, F68, F69⟩
    · simp only [List.getElem?_toArray, List.getElem?_cons_zero, List.getElem?_cons_succ, Option.some.injEq] at ho
      subst ho
      obtain rfl := F6 (hd ⟨6, .data⟩ (by simp) rfl)
      obtain rfl := F8 (hd ⟨8, .data⟩ (by simp) rfl)
      refine wpOp_step rfl (fun K hK => ?_)
      go_simp
      refine hK _ _ ?_
      exact ⟨_, _, _, _, _, _, _, _, _, _, _, _, _, _, _, _, _, _, _, _, _, _, _, _, _, _, _, _, _, _, _, _, _, _, _, _, _, _, _, _, _, _, _, _, _, _, _, _, _, _, _, _, _, _, _, _, rfl, lk F0, lk F1, lk F2, lk F3, lk F4, lk F5, lk F6, lk F7, lk F8, fun _ => rfl, lk F10, lk F11, lk F12, lk F13, lk F14, lk F15, lk F16, lk F17, lk F18, lk F19, lk F20, lk F21, lk F22, lk F23, lk F24, lk F25, lk F26, lk F27, lk F28, lk F29, lk F30, lk F31, lk F32, lk F33, lk F34, lk F35, lk F36, lk F37, lk F38, lk F39, lk F40, lk F41, lk F42, lk F43, lk F44, lk F45, lk F46, lk F47, lk F48, lk F49, lk F50, lk F51, lk F52, lk F53, lk F54, lk F55, F56, F57, F58, F59, F60, F61, F62, F63, F64, F65, F66, F67, F68, F69⟩
    · simp only [List.getElem?_toArray, List.getElem?_cons_zero, List.getElem?_cons_succ, Option.some.injEq] at ho
      subst ho
      obtain rfl := F9 (hd ⟨9, .data⟩ (by simp) rfl)
      refine wpOp_step rfl (fun K hK => ?_)
      go_simp
      refine hK _ _ ?_
      exact ⟨_, _, _, _, _, _, _, _, _, _, _, _, _, _, _, _, _, _, _, _, _, _, _, _, _, _, _, _, _, _, _, _, _, _, _, _, _, _, _, _, _, _, _, _, _, _, _, _, _, _, _, _, _, _, _, _, rfl, lk F0, lk F1, lk F2, lk F3, lk F4, lk F5, lk F6, lk F7, lk F8, lk F9, fun _ => rfl, lk F11, lk F12, lk F13, lk F14, lk F15, lk F16, lk F17, lk F18, lk F19, lk F20, lk F21, lk F22, lk F23, lk F24, lk F25, lk F26, lk F27, lk F28, lk F29, lk F30, lk F31, lk F32, lk F33, lk F34, lk F35, lk F36, lk F37, lk F38, lk F39, lk F40, lk F41, lk F42, lk F43, lk F44, lk F45, lk F46, lk F47, lk F48, lk F49, lk F50, lk F51, lk F52, lk F53, lk F54, lk F55, F56, F57, F58, F59, F60, F61, F62, F63, F64, F65, F66, F67, F68, F69⟩
    · simp only [List.getElem?_toArray, List.getElem?_cons_zero, List.getElem?_cons_succ, Option.some.injEq] at ho
      subst ho
      obtain rfl := F10 (hd ⟨10, .guard⟩ (by simp) rfl)
      refine wpOp_step rfl (fun K hK => ?_)
      go_simp
      refine hK _ _ ?_
      exact ⟨_, _, _, _, _, _, _, _, _, _, _, _, _, _, _, _, _, _, _, _, _, _, _, _, _, _, _, _, _, _, _, _, _, _, _, _, _, _, _, _, _, _, _, _, _, _, _, _, _, _, _, _, _, _, _, _, rfl, lk F0, lk F1, lk F2, lk F3, lk F4, lk F5, lk F6, lk F7, lk F8, lk F9, lk F10, fun _ => rfl, lk F12, lk F13, lk F14, lk F15, lk F16, lk F17, lk F18, lk F19, lk F20, lk F21, lk F22, lk F23, lk F24, lk F25, lk F26, lk F27, lk F28, lk F29, lk F30, lk F31, lk F32, lk F33, lk F34, lk F35, lk F36, lk F37, lk F38, lk F39, lk F40, lk F41, lk F42, lk F43, lk F44, lk F45, lk F46, lk F47, lk F48, lk F49, lk F50, lk F51, lk F52, lk F53, lk F54, lk F55, F56, F57, F58, F59, F60, F61, F62, F63, F64, F65, F66, F67, F68, F69⟩
    · simp only [List.getElem?_toArray, List.getElem?_cons_zero, List.getElem?_cons_succ, Option.some.injEq] at ho
      subst ho
      obtain rfl := F11 (hd ⟨11, .data⟩ (by simp) rfl)
      obtain rfl := F10 (hd ⟨10, .guard⟩ (by simp) rfl)
      refine wpOp_step rfl (fun K hK => ?_)
      go_simp
      refine hK _ _ ?_
      exact ⟨_, _, _, _, _, _, _, _, _, _, _, _, _, _, _, _, _, _, _, _, _, _, _, _, _, _, _, _, _, _, _, _, _, _, _, _, _, _, _, _, _, _, _, _, _, _, _, _, _, _, _, _, _, _, _, _, rfl, lk F0, lk F1, lk F2, lk F3, lk F4, lk F5, lk F6, lk F7, lk F8, lk F9, lk F10, lk F11, fun _ => rfl, lk F13, lk F14, lk F15, lk F16, lk F17, lk F18, lk F19, lk F20, lk F21, lk F22, lk F23, lk F24, lk F25, lk F26, lk F27, lk F28, lk F29, lk F30, lk F31, lk F32, lk F33, lk F34, lk F35, lk F36, lk F37, lk F38, lk F39, lk F40, lk F41, lk F42, lk F43, lk F44, lk F45, lk F46, lk F47, lk F48, lk F49, lk F50, lk F51, lk F52, lk F53, lk F54, lk F55, F56, F57, F58, F59, F60, F61, F62, F63, F64, F65, F66, F67, F68, F69⟩
    · simp only [List.getElem?_toArray, List.getElem?_cons_zero, List.getElem?_cons_succ, Option.some.injEq] at ho
      subst ho
      obtain rfl := F10 (hd ⟨10, .data⟩ (by simp) rfl)
      obtain rfl := F12 (hd ⟨12, .data⟩ (by simp) rfl)
      refine wpOp_step rfl (fun K hK => ?_)
      go_simp
      refine hK _ _ ?_
      exact ⟨_, _, _, _, _, _, _, _, _, _, _, _, _, _, _, _, _, _, _, _, _, _, _, _, _, _, _, _, _, _, _, _, _, _, _, _, _, _, _, _, _, _, _, _, _, _, _, _, _, _, _, _, _, _, _, _, rfl, lk F0, lk F1, lk F2, lk F3, lk F4, lk F5, lk F6, lk F7, lk F8, lk F9, lk F10, lk F11, lk F12, fun _ => rfl, lk F14, lk F15, lk F16, lk F17, lk F18, lk F19, lk F20, lk F21, lk F22, lk F23, lk F24, lk F25, lk F26, lk F27, lk F28, lk F29, lk F30, lk F31, lk F32, lk F33, lk F34, lk F35, lk F36, lk F37, lk F38, lk F39, lk F40, lk F41, lk F42, lk F43, lk F44, lk F45, lk F46, lk F47, lk F48, lk F49, lk F50, lk F51, lk F52, lk F53, lk F54, lk F55, F56, F57, F58, F59, F60, F61, F62, F63, F64, F65, F66, F67, F68, F69⟩
    · simp only [List.getElem?_toArray, List.getElem?_cons_zero, List.getElem?_cons_succ, Option.some.injEq] at ho
      subst ho
      obtain rfl := F13 (hd ⟨13, .data⟩ (by simp) rfl)
      refine wpOp_step rfl (fun K hK => ?_)
      go_simp
      refine hK _ _ ?_
      exact ⟨_, _, _, _, _, _, _, _, _, _, _, _, _, _, _, _, _, _, _, _, _, _, _, _, _, _, _, _, _, _, _, _, _, _, _, _, _, _, _, _, _, _, _, _, _, _, _, _, _, _, _, _, _, _, _, _, rfl, lk F0, lk F1, lk F2, lk F3, lk F4, lk F5, lk F6, lk F7, lk F8, lk F9, lk F10, lk F11, lk F12, lk F13, fun _ => rfl, lk F15, lk F16, lk F17, lk F18, lk F19, lk F20, lk F21, lk F22, lk F23, lk F24, lk F25, lk F26, lk F27, lk F28, lk F29, lk F30, lk F31, lk F32, lk F33, lk F34, lk F35, lk F36, lk F37, lk F38, lk F39, lk F40, lk F41, lk F42, lk F43, lk F44, lk F45, lk F46, lk F47, lk F48, lk F49, lk F50, lk F51, lk F52, lk F53, lk F54, lk F55, F56, F57, F58, F59, F60, F61, F62, F63, F64, F65, F66, F67, F68, F69⟩
    · simp only [List.getElem?_toArray, List.getElem?_cons_zero, List.getElem?_cons_succ, Option.some.injEq] at ho
      subst ho
      obtain rfl := F14 (hd ⟨14, .guard⟩ (by simp) rfl)
      refine wpOp_step rfl (fun K hK => ?_)
      go_simp
      refine hK _ _ ?_
      exact ⟨_, _, _, _, _, _, _, _, _, _, _, _, _, _, _, _, _, _, _, _, _, _, _, _, _, _, _, _, _, _, _, _, _, _, _, _, _, _, _, _, _, _, _, _, _, _, _, _, _, _, _, _, _, _, _, _, rfl, lk F0, lk F1, lk F2, lk F3, lk F4, lk F5, lk F6, lk F7, lk F8, lk F9, lk F10, lk F11, lk F12, lk F13, lk F14, fun _ => rfl, lk F16, lk F17, lk F18, lk F19, lk F20, lk F21, lk F22, lk F23, lk F24, lk F25, lk F26, lk F27, lk F28, lk F29, lk F30, lk F31, lk F32, lk F33, lk F34, lk F35, lk F36, lk F37, lk F38, lk F39, lk F40, lk F41, lk F42, lk F43, lk F44, lk F45, lk F46, lk F47, lk F48, lk F49, lk F50, lk F51, lk F52, lk F53, lk F54, lk F55, F56, F57, F58, F59, F60, F61, F62, F63, F64, F65, F66, F67, F68, F69⟩
    · simp only [List.getElem?_toArray, List.getElem?_cons_zero, List.getElem?_cons_succ, Option.some.injEq] at ho
      subst ho
      obtain rfl := F15 (hd ⟨15, .data⟩ (by simp) rfl)
      obtain rfl := F14 (hd ⟨14, .guard⟩ (by simp) rfl)
      have h0 := F57; have h1 := F58; have h2 := F59; have h3 := F60; have h4 := F61; have h5 := F62; have h6 := F63; have h7 := F64; have h8 := F65; have h9 := F66; have h10 := F67; have h11 := F68; have h12 := F69
      refine wpOp_step rfl (fun K hK => ?_)
      go_simp
      refine hK _ _ ?_
      exact ⟨_, _, _, _, _, _, _, _, _, _, _, _, _, _, _, _, _, _, _, _, _, _, _, _, _, _, _, _, _, _, _, _, _, _, _, _, _, _, _, _, _, _, _, _, _, _, _, _, _, _, _, _, _, _, _, _, rfl, lk F0, lk F1, lk F2, lk F3, lk F4, lk F5, lk F6, lk F7, lk F8, lk F9, lk F10, lk F11, lk F12, lk F13, lk F14, lk F15, fun _ => rfl, lk F17, lk F18, lk F19, lk F20, lk F21, lk F22, lk F23, lk F24, lk F25, lk F26, lk F27, lk F28, lk F29, lk F30, lk F31, lk F32, lk F33, lk F34, lk F35, lk F36, lk F37, lk F38, lk F39, lk F40, lk F41, lk F42, lk F43, lk F44, lk F45, lk F46, lk F47, lk F48, lk F49, lk F50, lk F51, lk F52, lk F53, lk F54, lk F55, F56, F57, F58, F59, F60, F61, F62, F63, F64, F65, F66, F67, F68, F69⟩
    · simp only [List.getElem?_toArray, List.getElem?_cons_zero, List.getElem?_cons_succ, Option.some.injEq] at ho
      subst ho
      obtain rfl := F14 (hd ⟨14, .guard⟩ (by simp) rfl)
      refine wpOp_step rfl (fun K hK => ?_)
      go_simp
      refine hK _ _ ?_
      exact ⟨_, _, _, _, _, _, _, _, _, _, _, _, _, _, _, _, _, _, _, _, _, _, _, _, _, _, _, _, _, _, _, _, _, _, _, _, _, _, _, _, _, _, _, _, _, _, _, _, _, _, _, _, _, _, _, _, rfl, lk F0, lk F1, lk F2, lk F3, lk F4, lk F5, lk F6, lk F7, lk F8, lk F9, lk F10, lk F11, lk F12, lk F13, lk F14, lk F15, lk F16, fun _ => rfl, lk F18, lk F19, lk F20, lk F21, lk F22, lk F23, lk F24, lk F25, lk F26, lk F27, lk F28, lk F29, lk F30, lk F31, lk F32, lk F33, lk F34, lk F35, lk F36, lk F37, lk F38, lk F39, lk F40, lk F41, lk F42, lk F43, lk F44, lk F45, lk F46, lk F47, lk F48, lk F49, lk F50, lk F51, lk F52, lk F53, lk F54, lk F55, F56, F57, F58, F59, F60, F61, F62, F63, F64, F65, F66, F67, F68, F69⟩
    · simp only [List.getElem?_toArray, List.getElem?_cons_zero, List.getElem?_cons_succ, Option.some.injEq] at ho
      subst ho
      obtain rfl := F17 (hd ⟨17, .data⟩ (by simp) rfl)
      obtain rfl := F14 (hd ⟨14, .guard⟩ (by simp) rfl)
      have h0 := F57; have h1 := F58; have h2 := F59; have h3 := F60; have h4 := F61; have h5 := F62; have h6 := F63; have h7 := F64; have h8 := F65; have h9 := F66; have h10 := F67; have h11 := F68; have h12 := F69
      refine wpOp_step rfl (fun K hK => ?_)
      go_simp
      refine hK _ _ ?_
      exact ⟨_, _, _, _, _, _, _, _, _, _, _, _, _, _, _, _, _, _, _, _, _, _, _, _, _, _, _, _, _, _, _, _, _, _, _, _, _, _, _, _, _, _, _, _, _, _, _, _, _, _, _, _, _, _, _, _, rfl, lk F0, lk F1, lk F2, lk F3, lk F4, lk F5, lk F6, lk F7, lk F8, lk F9, lk F10, lk F11, lk F12, lk F13, lk F14, lk F15, lk F16, lk F17, fun _ => rfl, lk F19, lk F20, lk F21, lk F22, lk F23, lk F24, lk F25, lk F26, lk F27, lk F28, lk F29, lk F30, lk F31, lk F32, lk F33, lk F34, lk F35, lk F36, lk F37, lk F38, lk F39, lk F40, lk F41, lk F42, lk F43, lk F44, lk F45, lk F46, lk F47, lk F48, lk F49, lk F50, lk F51, lk F52, lk F53, lk F54, lk F55, F56, F57, F58, F59, F60, F61, F62, F63, F64, F65, F66, F67, F68, F69⟩
    · simp only [List.getElem?_toArray, List.getElem?_cons_zero, List.getElem?_cons_succ, Option.some.injEq] at ho
      subst ho
      obtain rfl := F18 (hd ⟨18, .data⟩ (by simp) rfl)
      obtain rfl := F14 (hd ⟨14, .guard⟩ (by simp) rfl)
      refine wpOp_step rfl (fun K hK => ?_)
      go_simp
      refine hK _ _ ?_
      exact ⟨_, _, _, _, _, _, _, _, _, _, _, _, _, _, _, _, _, _, _, _, _, _, _, _, _, _, _, _, _, _, _, _, _, _, _, _, _, _, _, _, _, _, _, _, _, _, _, _, _, _, _, _, _, _, _, _, rfl, lk F0, lk F1, lk F2, lk F3, lk F4, lk F5, lk F6, lk F7, lk F8, lk F9, lk F10, lk F11, lk F12, lk F13, lk F14, lk F15, lk F16, lk F17, lk F18, fun _ => rfl, lk F20, lk F21, lk F22, lk F23, lk F24, lk F25, lk F26, lk F27, lk F28, lk F29, lk F30, lk F31, lk F32, lk F33, lk F34, lk F35, lk F36, lk F37, lk F38, lk F39, lk F40, lk F41, lk F42, lk F43, lk F44, lk F45, lk F46, lk F47, lk F48, lk F49, lk F50, lk F51, lk F52, lk F53, lk F54, lk F55, F56, F57, F58, F59, F60, F61, F62, F63, F64, F65, F66, F67, F68, F69⟩
    · simp only [List.getElem?_toArray, List.getElem?_cons_zero, List.getElem?_cons_succ, Option.some.injEq] at ho
      subst ho
      obtain rfl := F16 (hd ⟨16, .data⟩ (by simp) rfl)
      obtain rfl := F19 (hd ⟨19, .data⟩ (by simp) rfl)
      obtain rfl := F14 (hd ⟨14, .guard⟩ (by simp) rfl)
      refine wpOp_step rfl (fun K hK => ?_)
      go_simp
      refine hK _ _ ?_
      exact ⟨_, _, _, _, _, _, _, _, _, _, _, _, _, _, _, _, _, _, _, _, _, _, _, _, _, _, _, _, _, _, _, _, _, _, _, _, _, _, _, _, _, _, _, _, _, _, _, _, _, _, _, _, _, _, _, _, rfl, lk F0, lk F1, lk F2, lk F3, lk F4, lk F5, lk F6, lk F7, lk F8, lk F9, lk F10, lk F11, lk F12, lk F13, lk F14, lk F15, lk F16, lk F17, lk F18, lk F19, fun _ => rfl, lk F21, lk F22, lk F23, lk F24, lk F25, lk F26, lk F27, lk F28, lk F29, lk F30, lk F31, lk F32, lk F33, lk F34, lk F35, lk F36, lk F37, lk F38, lk F39, lk F40, lk F41, lk F42, lk F43, lk F44, lk F45, lk F46, lk F47, lk F48, lk F49, lk F50, lk F51, lk F52, lk F53, lk F54, lk F55, F56, F57, F58, F59, F60, F61, F62, F63, F64, F65, F66, F67, F68, F69⟩
    · simp only [List.getElem?_toArray, List.getElem?_cons_zero, List.getElem?_cons_succ, Option.some.injEq] at ho
      subst ho
      obtain rfl := F14 (hd ⟨14, .data⟩ (by simp) rfl)
      obtain rfl := F20 (hd ⟨20, .data⟩ (by simp) rfl)
      refine wpOp_step rfl (fun K hK => ?_)
      go_simp
      refine hK _ _ ?_
      exact ⟨_, _, _, _, _, _, _, _, _, _, _, _, _, _, _, _, _, _, _, _, _, _, _, _, _, _, _, _, _, _, _, _, _, _, _, _, _, _, _, _, _, _, _, _, _, _, _, _, _, _, _, _, _, _, _, _, rfl, lk F0, lk F1, lk F2, lk F3, lk F4, lk F5, lk F6, lk F7, lk F8, lk F9, lk F10, lk F11, lk F12, lk F13, lk F14, lk F15, lk F16, lk F17, lk F18, lk F19, lk F20, fun _ => rfl, lk F22, lk F23, lk F24, lk F25, lk F26, lk F27, lk F28, lk F29, lk F30, lk F31, lk F32, lk F33, lk F34, lk F35, lk F36, lk F37, lk F38, lk F39, lk F40, lk F41, lk F42, lk F43, lk F44, lk F45, lk F46, lk F47, lk F48, lk F49, lk F50, lk F51, lk F52, lk F53, lk F54, lk F55, F56, F57, F58, F59, F60, F61, F62, F63, F64, F65, F66, F67, F68, F69⟩
    · simp only [List.getElem?_toArray, List.getElem?_cons_zero, List.getElem?_cons_succ, Option.some.injEq] at ho
      subst ho
      obtain rfl := F21 (hd ⟨21, .data⟩ (by simp) rfl)
      refine wpOp_step rfl (fun K hK => ?_)
      go_simp
      refine hK _ _ ?_
      exact ⟨_, _, _, _, _, _, _, _, _, _, _, _, _, _, _, _, _, _, _, _, _, _, _, _, _, _, _, _, _, _, _, _, _, _, _, _, _, _, _, _, _, _, _, _, _, _, _, _, _, _, _, _, _, _, _, _, rfl, lk F0, lk F1, lk F2, lk F3, lk F4, lk F5, lk F6, lk F7, lk F8, lk F9, lk F10, lk F11, lk F12, lk F13, lk F14, lk F15, lk F16, lk F17, lk F18, lk F19, lk F20, lk F21, fun _ => rfl, lk F23, lk F24, lk F25, lk F26, lk F27, lk F28, lk F29, lk F30, lk F31, lk F32, lk F33, lk F34, lk F35, lk F36, lk F37, lk F38, lk F39, lk F40, lk F41, lk F42, lk F43, lk F44, lk F45, lk F46, lk F47, lk F48, lk F49, lk F50, lk F51, lk F52, lk F53, lk F54, lk F55, F56, F57, F58, F59, F60, F61, F62, F63, F64, F65, F66, F67, F68, F69⟩
    · simp only [List.getElem?_toArray, List.getElem?_cons_zero, List.getElem?_cons_succ, Option.some.injEq] at ho
      subst ho
      obtain rfl := F22 (hd ⟨22, .guard⟩ (by simp) rfl)
      have h0 := F57; have h1 := F58; have h2 := F59; have h3 := F60; have h4 := F61; have h5 := F62; have h6 := F63; have h7 := F64; have h8 := F65; have h9 := F66; have h10 := F67; have h11 := F68; have h12 := F69
      refine wpOp_step rfl (fun K hK => ?_)
      go_simp
      refine hK _ _ ?_
      exact ⟨_, _, _, _, _, _, _, _, _, _, _, _, _, _, _, _, _, _, _, _, _, _, _, _, _, _, _, _, _, _, _, _, _, _, _, _, _, _, _, _, _, _, _, _, _, _, _, _, _, _, _, _, _, _, _, _, rfl, lk F0, lk F1, lk F2, lk F3, lk F4, lk F5, lk F6, lk F7, lk F8, lk F9, lk F10, lk F11, lk F12, lk F13, lk F14, lk F15, lk F16, lk F17, lk F18, lk F19, lk F20, lk F21, lk F22, fun _ => rfl, lk F24, lk F25, lk F26, lk F27, lk F28, lk F29, lk F30, lk F31, lk F32, lk F33, lk F34, lk F35, lk F36, lk F37, lk F38, lk F39, lk F40, lk F41, lk F42, lk F43, lk F44, lk F45, lk F46, lk F47, lk F48, lk F49, lk F50, lk F51, lk F52, lk F53, lk F54, lk F55, F56, F57, F58, F59, F60, F61, F62, F63, F64, F65, F66, F67, F68, F69⟩
    · simp only [List.getElem?_toArray, List.getElem?_cons_zero, List.getElem?_cons_succ, Option.some.injEq] at ho
      subst ho
      obtain rfl := F23 (hd ⟨23, .data⟩ (by simp) rfl)
      obtain rfl := F22 (hd ⟨22, .guard⟩ (by simp) rfl)
      refine wpOp_step rfl (fun K hK => ?_)
      go_simp
      go_at_call 23
      refine (ND.out.call HT.out (by exact F56)).mono ?_
      rintro e w' ⟨rfl, hb⟩
      refine hK _ _ ?_
      exact ⟨_, _, _, _, _, _, _, _, _, _, _, _, _, _, _, _, _, _, _, _, _, _, _, _, _, _, _, _, _, _, _, _, _, _, _, _, _, _, _, _, _, _, _, _, _, _, _, _, _, _, _, _, _, _, _, _, rfl, lk F0, lk F1, lk F2, lk F3, lk F4, lk F5, lk F6, lk F7, lk F8, lk F9, lk F10, lk F11, lk F12, lk F13, lk F14, lk F15, lk F16, lk F17, lk F18, lk F19, lk F20, lk F21, lk F22, lk F23, fun _ => rfl, lk F25, lk F26, lk F27, lk F28, lk F29, lk F30, lk F31, lk F32, lk F33, lk F34, lk F35, lk F36, lk F37, lk F38, lk F39, lk F40, lk F41, lk F42, lk F43, lk F44, lk F45, lk F46, lk F47, lk F48, lk F49, lk F50, lk F51, lk F52, lk F53, lk F54, lk F55, bt F56 hb, cell_call F57 hb, cell_call F58 hb, cell_call F59 hb, cell_call F60 hb, cell_call F61 hb, cell_call F62 hb, cell_call F63 hb, cell_call F64 hb, cell_call F65 hb, cell_call F66 hb, cell_call F67 hb, cell_call F68 hb, cell_call F69 hb⟩
    · simp only [List.getElem?_toArray, List.getElem?_cons_zero, List.getElem?_cons_succ, Option.some.injEq] at ho
      subst ho
      obtain rfl := F22 (hd ⟨22, .guard⟩ (by simp) rfl)
      have h0 := F57; have h1 := F58; have h2 := F59; have h3 := F60; have h4 := F61; have h5 := F62; have h6 := F63; have h7 := F64; have h8 := F65; have h9 := F66; have h10 := F67; have h11 := F68; have h12 := F69
      refine wpOp_step rfl (fun K hK => ?_)
      go_simp
      refine hK _ _ ?_
      exact ⟨_, _, _, _, _, _, _, _, _, _, _, _, _, _, _, _, _, _, _, _, _, _, _, _, _, _, _, _, _, _, _, _, _, _, _, _, _, _, _, _, _, _, _, _, _, _, _, _, _, _, _, _, _, _, _, _, rfl, lk F0, lk F1, lk F2, lk F3, lk F4, lk F5, lk F6, lk F7, lk F8, lk F9, lk F10, lk F11, lk F12, lk F13, lk F14, lk F15, lk F16, lk F17, lk F18, lk F19, lk F20, lk F21, lk F22, lk F23, lk F24, fun _ => rfl, lk F26, lk F27, lk F28, lk F29, lk F30, lk F31, lk F32, lk F33, lk F34, lk F35, lk F36, lk F37, lk F38, lk F39, lk F40, lk F41, lk F42, lk F43, lk F44, lk F45, lk F46, lk F47, lk F48, lk F49, lk F50, lk F51, lk F52, lk F53, lk F54, lk F55, F56, F57, F58, F59, F60, F61, F62, F63, F64, F65, F66, F67, F68, F69⟩
    · simp only [List.getElem?_toArray, List.getElem?_cons_zero, List.getElem?_cons_succ, Option.some.injEq] at ho
      subst ho
      obtain rfl := F25 (hd ⟨25, .data⟩ (by simp) rfl)
      obtain rfl := F22 (hd ⟨22, .guard⟩ (by simp) rfl)
      refine wpOp_step rfl (fun K hK => ?_)
      go_simp
      go_at_call 23
      refine (NA.out.call HT.out (by exact F56)).mono ?_
      rintro e w' ⟨rfl, hb⟩
      refine hK _ _ ?_
      exact ⟨_, _, _, _, _, _, _, _, _, _, _, _, _, _, _, _, _, _, _, _, _, _, _, _, _, _, _, _, _, _, _, _, _, _, _, _, _, _, _, _, _, _, _, _, _, _, _, _, _, _, _, _, _, _, _, _, rfl, lk F0, lk F1, lk F2, lk F3, lk F4, lk F5, lk F6, lk F7, lk F8, lk F9, lk F10, lk F11, lk F12, lk F13, lk F14, lk F15, lk F16, lk F17, lk F18, lk F19, lk F20, lk F21, lk F22, lk F23, lk F24, lk F25, fun _ => rfl, lk F27, lk F28, lk F29, lk F30, lk F31, lk F32, lk F33, lk F34, lk F35, lk F36, lk F37, lk F38, lk F39, lk F40, lk F41, lk F42, lk F43, lk F44, lk F45, lk F46, lk F47, lk F48, lk F49, lk F50, lk F51, lk F52, lk F53, lk F54, lk F55, bt F56 hb, cell_call F57 hb, cell_call F58 hb, cell_call F59 hb, cell_call F60 hb, cell_call F61 hb, cell_call F62 hb, cell_call F63 hb, cell_call F64 hb, cell_call F65 hb, cell_call F66 hb, cell_call F67 hb, cell_call F68 hb, cell_call F69 hb⟩
    · simp only [List.getElem?_toArray, List.getElem?_cons_zero, List.getElem?_cons_succ, Option.some.injEq] at ho
      subst ho
      obtain rfl := F24 (hd ⟨24, .data⟩ (by simp) rfl)
      obtain rfl := F26 (hd ⟨26, .data⟩ (by simp) rfl)
      obtain rfl := F22 (hd ⟨22, .guard⟩ (by simp) rfl)
      refine wpOp_step rfl (fun K hK => ?_)
      go_simp
      refine hK _ _ ?_
      exact ⟨_, _, _, _, _, _, _, _, _, _, _, _, _, _, _, _, _, _, _, _, _, _, _, _, _, _, _, _, _, _, _, _, _, _, _, _, _, _, _, _, _, _, _, _, _, _, _, _, _, _, _, _, _, _, _, _, rfl, lk F0, lk F1, lk F2, lk F3, lk F4, lk F5, lk F6, lk F7, lk F8, lk F9, lk F10, lk F11, lk F12, lk F13, lk F14, lk F15, lk F16, lk F17, lk F18, lk F19, lk F20, lk F21, lk F22, lk F23, lk F24, lk F25, lk F26, fun _ => rfl, lk F28, lk F29, lk F30, lk F31, lk F32, lk F33, lk F34, lk F35, lk F36, lk F37, lk F38, lk F39, lk F40, lk F41, lk F42, lk F43, lk F44, lk F45, lk F46, lk F47, lk F48, lk F49, lk F50, lk F51, lk F52, lk F53, lk F54, lk F55, F56, F57, F58, F59, F60, F61, F62, F63, F64, F65, F66, F67, F68, F69⟩
    · simp only [List.getElem?_toArray, List.getElem?_cons_zero, List.getElem?_cons_succ, Option.some.injEq] at ho
      subst ho
      obtain rfl := F22 (hd ⟨22, .data⟩ (by simp) rfl)
      obtain rfl := F27 (hd ⟨27, .data⟩ (by simp) rfl)
      refine wpOp_step rfl (fun K hK => ?_)
      go_simp
      refine hK _ _ ?_
      exact ⟨_, _, _, _, _, _, _, _, _, _, _, _, _, _, _, _, _, _, _, _, _, _, _, _, _, _, _, _, _, _, _, _, _, _, _, _, _, _, _, _, _, _, _, _, _, _, _, _, _, _, _, _, _, _, _, _, rfl, lk F0, lk F1, lk F2, lk F3, lk F4, lk F5, lk F6, lk F7, lk F8, lk F9, lk F10, lk F11, lk F12, lk F13, lk F14, lk F15, lk F16, lk F17, lk F18, lk F19, lk F20, lk F21, lk F22, lk F23, lk F24, lk F25, lk F26, lk F27, fun _ => rfl, lk F29, lk F30, lk F31, lk F32, lk F33, lk F34, lk F35, lk F36, lk F37, lk F38, lk F39, lk F40, lk F41, lk F42, lk F43, lk F44, lk F45, lk F46, lk F47, lk F48, lk F49, lk F50, lk F51, lk F52, lk F53, lk F54, lk F55, F56, F57, F58, F59, F60, F61, F62, F63, F64, F65, F66, F67, F68, F69⟩
    · simp only [List.getElem?_toArray, List.getElem?_cons_zero, List.getElem?_cons_succ, Option.some.injEq] at ho
      subst ho
      obtain rfl := F28 (hd ⟨28, .data⟩ (by simp) rfl)
      refine wpOp_step rfl (fun K hK => ?_)
      go_simp
      refine hK _ _ ?_
      exact ⟨_, _, _, _, _, _, _, _, _, _, _, _, _, _, _, _, _, _, _, _, _, _, _, _, _, _, _, _, _, _, _, _, _, _, _, _, _, _, _, _, _, _, _, _, _, _, _, _, _, _, _, _, _, _, _, _, rfl, lk F0, lk F1, lk F2, lk F3, lk F4, lk F5, lk F6, lk F7, lk F8, lk F9, lk F10, lk F11, lk F12, lk F13, lk F14, lk F15, lk F16, lk F17, lk F18, lk F19, lk F20, lk F21, lk F22, lk F23, lk F24, lk F25, lk F26, lk F27, lk F28, fun _ => rfl, lk F30, lk F31, lk F32, lk F33, lk F34, lk F35, lk F36, lk F37, lk F38, lk F39, lk F40, lk F41, lk F42, lk F43, lk F44, lk F45, lk F46, lk F47, lk F48, lk F49, lk F50, lk F51, lk F52, lk F53, lk F54, lk F55, F56, F57, F58, F59, F60, F61, F62, F63, F64, F65, F66, F67, F68, F69⟩
    · simp only [List.getElem?_toArray, List.getElem?_cons_zero, List.getElem?_cons_succ, Option.some.injEq] at ho
      subst ho
      obtain rfl := F29 (hd ⟨29, .guard⟩ (by simp) rfl)
      have h0 := F57; have h1 := F58; have h2 := F59; have h3 := F60; have h4 := F61; have h5 := F62; have h6 := F63; have h7 := F64; have h8 := F65; have h9 := F66; have h10 := F67; have h11 := F68; have h12 := F69
      refine wpOp_step rfl (fun K hK => ?_)
      go_simp
      refine hK _ _ ?_
      exact ⟨_, _, _, _, _, _, _, _, _, _, _, _, _, _, _, _, _, _, _, _, _, _, _, _, _, _, _, _, _, _, _, _, _, _, _, _, _, _, _, _, _, _, _, _, _, _, _, _, _, _, _, _, _, _, _, _, rfl, lk F0, lk F1, lk F2, lk F3, lk F4, lk F5, lk F6, lk F7, lk F8, lk F9, lk F10, lk F11, lk F12, lk F13, lk F14, lk F15, lk F16, lk F17, lk F18, lk F19, lk F20, lk F21, lk F22, lk F23, lk F24, lk F25, lk F26, lk F27, lk F28, lk F29, fun _ => rfl, lk F31, lk F32, lk F33, lk F34, lk F35, lk F36, lk F37, lk F38, lk F39, lk F40, lk F41, lk F42, lk F43, lk F44, lk F45, lk F46, lk F47, lk F48, lk F49, lk F50, lk F51, lk F52, lk F53, lk F54, lk F55, F56, F57, F58, F59, F60, F61, F62, F63, F64, F65, F66, F67, F68, F69⟩
    · simp only [List.getElem?_toArray, List.getElem?_cons_zero, List.getElem?_cons_succ, Option.some.injEq] at ho
      subst ho
      obtain rfl := F29 (hd ⟨29, .guard⟩ (by simp) rfl)
      refine wpOp_step rfl (fun K hK => ?_)
      go_simp
      refine hK _ _ ?_
      exact ⟨_, _, _, _, _, _, _, _, _, _, _, _, _, _, _, _, _, _, _, _, _, _, _, _, _, _, _, _, _, _, _, _, _, _, _, _, _, _, _, _, _, _, _, _, _, _, _, _, _, _, _, _, _, _, _, _, rfl, lk F0, lk F1, lk F2, lk F3, lk F4, lk F5, lk F6, lk F7, lk F8, lk F9, lk F10, lk F11, lk F12, lk F13, lk F14, lk F15, lk F16, lk F17, lk F18, lk F19, lk F20, lk F21, lk F22, lk F23, lk F24, lk F25, lk F26, lk F27, lk F28, lk F29, lk F30, fun _ => rfl, lk F32, lk F33, lk F34, lk F35, lk F36, lk F37, lk F38, lk F39, lk F40, lk F41, lk F42, lk F43, lk F44, lk F45, lk F46, lk F47, lk F48, lk F49, lk F50, lk F51, lk F52, lk F53, lk F54, lk F55, F56, F57, F58, F59, F60, F61, F62, F63, F64, F65, F66, F67, F68, F69⟩
    · simp only [List.getElem?_toArray, List.getElem?_cons_zero, List.getElem?_cons_succ, Option.some.injEq] at ho
      subst ho
      obtain rfl := F30 (hd ⟨30, .data⟩ (by simp) rfl)
      obtain rfl := F31 (hd ⟨31, .data⟩ (by simp) rfl)
      obtain rfl := F29 (hd ⟨29, .guard⟩ (by simp) rfl)
      refine wpOp_step rfl (fun K hK => ?_)
      go_simp
      go_at_call 28
      refine (H1.out.call _).mono ?_
      rintro e w' ⟨rfl, hb⟩
      refine hK _ _ ?_
      exact ⟨_, _, _, _, _, _, _, _, _, _, _, _, _, _, _, _, _, _, _, _, _, _, _, _, _, _, _, _, _, _, _, _, _, _, _, _, _, _, _, _, _, _, _, _, _, _, _, _, _, _, _, _, _, _, _, _, rfl, lk F0, lk F1, lk F2, lk F3, lk F4, lk F5, lk F6, lk F7, lk F8, lk F9, lk F10, lk F11, lk F12, lk F13, lk F14, lk F15, lk F16, lk F17, lk F18, lk F19, lk F20, lk F21, lk F22, lk F23, lk F24, lk F25, lk F26, lk F27, lk F28, lk F29, lk F30, lk F31, fun _ => rfl, lk F33, lk F34, lk F35, lk F36, lk F37, lk F38, lk F39, lk F40, lk F41, lk F42, lk F43, lk F44, lk F45, lk F46, lk F47, lk F48, lk F49, lk F50, lk F51, lk F52, lk F53, lk F54, lk F55, bt F56 hb, cell_call F57 hb, cell_call F58 hb, cell_call F59 hb, cell_call F60 hb, cell_call F61 hb, cell_call F62 hb, cell_call F63 hb, cell_call F64 hb, cell_call F65 hb, cell_call F66 hb, cell_call F67 hb, cell_call F68 hb, cell_call F69 hb⟩
    · simp only [List.getElem?_toArray, List.getElem?_cons_zero, List.getElem?_cons_succ, Option.some.injEq] at ho
      subst ho
      obtain rfl := F32 (hd ⟨32, .data⟩ (by simp) rfl)
      obtain rfl := F29 (hd ⟨29, .guard⟩ (by simp) rfl)
      refine wpOp_step rfl (fun K hK => ?_)
      go_simp
      refine hK _ _ ?_
      exact ⟨_, _, _, _, _, _, _, _, _, _, _, _, _, _, _, _, _, _, _, _, _, _, _, _, _, _, _, _, _, _, _, _, _, _, _, _, _, _, _, _, _, _, _, _, _, _, _, _, _, _, _, _, _, _, _, _, rfl, lk F0, lk F1, lk F2, lk F3, lk F4, lk F5, lk F6, lk F7, lk F8, lk F9, lk F10, lk F11, lk F12, lk F13, lk F14, lk F15, lk F16, lk F17, lk F18, lk F19, lk F20, lk F21, lk F22, lk F23, lk F24, lk F25, lk F26, lk F27, lk F28, lk F29, lk F30, lk F31, lk F32, fun _ => rfl, lk F34, lk F35, lk F36, lk F37, lk F38, lk F39, lk F40, lk F41, lk F42, lk F43, lk F44, lk F45, lk F46, lk F47, lk F48, lk F49, lk F50, lk F51, lk F52, lk F53, lk F54, lk F55, F56, F57, F58, F59, F60, F61, F62, F63, F64, F65, F66, F67, F68, F69⟩
    · simp only [List.getElem?_toArray, List.getElem?_cons_zero, List.getElem?_cons_succ, Option.some.injEq] at ho
      subst ho
      obtain rfl := F29 (hd ⟨29, .data⟩ (by simp) rfl)
      obtain rfl := F33 (hd ⟨33, .data⟩ (by simp) rfl)
      refine wpOp_step rfl (fun K hK => ?_)
      go_simp
      refine hK _ _ ?_
      exact ⟨_, _, _, _, _, _, _, _, _, _, _, _, _, _, _, _, _, _, _, _, _, _, _, _, _, _, _, _, _, _, _, _, _, _, _, _, _, _, _, _, _, _, _, _, _, _, _, _, _, _, _, _, _, _, _, _, rfl, lk F0, lk F1, lk F2, lk F3, lk F4, lk F5, lk F6, lk F7, lk F8, lk F9, lk F10, lk F11, lk F12, lk F13, lk F14, lk F15, lk F16, lk F17, lk F18, lk F19, lk F20, lk F21, lk F22, lk F23, lk F24, lk F25, lk F26, lk F27, lk F28, lk F29, lk F30, lk F31, lk F32, lk F33, fun _ => rfl, lk F35, lk F36, lk F37, lk F38, lk F39, lk F40, lk F41, lk F42, lk F43, lk F44, lk F45, lk F46, lk F47, lk F48, lk F49, lk F50, lk F51, lk F52, lk F53, lk F54, lk F55, F56, F57, F58, F59, F60, F61, F62, F63, F64, F65, F66, F67, F68, F69⟩
    · simp only [List.getElem?_toArray, List.getElem?_cons_zero, List.getElem?_cons_succ, Option.some.injEq] at ho
      subst ho
      obtain rfl := F34 (hd ⟨34, .data⟩ (by simp) rfl)
      refine wpOp_step rfl (fun K hK => ?_)
      go_simp
      refine hK _ _ ?_
      exact ⟨_, _, _, _, _, _, _, _, _, _, _, _, _, _, _, _, _, _, _, _, _, _, _, _, _, _, _, _, _, _, _, _, _, _, _, _, _, _, _, _, _, _, _, _, _, _, _, _, _, _, _, _, _, _, _, _, rfl, lk F0, lk F1, lk F2, lk F3, lk F4, lk F5, lk F6, lk F7, lk F8, lk F9, lk F10, lk F11, lk F12, lk F13, lk F14, lk F15, lk F16, lk F17, lk F18, lk F19, lk F20, lk F21, lk F22, lk F23, lk F24, lk F25, lk F26, lk F27, lk F28, lk F29, lk F30, lk F31, lk F32, lk F33, lk F34, fun _ => rfl, lk F36, lk F37, lk F38, lk F39, lk F40, lk F41, lk F42, lk F43, lk F44, lk F45, lk F46, lk F47, lk F48, lk F49, lk F50, lk F51, lk F52, lk F53, lk F54, lk F55, F56, F57, F58, F59, F60, F61, F62, F63, F64, F65, F66, F67, F68, F69⟩
    · simp only [List.getElem?_toArray, List.getElem?_cons_zero, List.getElem?_cons_succ, Option.some.injEq] at ho
      subst ho
      obtain rfl := F35 (hd ⟨35, .guard⟩ (by simp) rfl)
      have h0 := F57; have h1 := F58; have h2 := F59; have h3 := F60; have h4 := F61; have h5 := F62; have h6 := F63; have h7 := F64; have h8 := F65; have h9 := F66; have h10 := F67; have h11 := F68; have h12 := F69
      refine wpOp_step rfl (fun K hK => ?_)
      go_simp
      refine hK _ _ ?_
      exact ⟨_, _, _, _, _, _, _, _, _, _, _, _, _, _, _, _, _, _, _, _, _, _, _, _, _, _, _, _, _, _, _, _, _, _, _, _, _, _, _, _, _, _, _, _, _, _, _, _, _, _, _, _, _, _, _, _, rfl, lk F0, lk F1, lk F2, lk F3, lk F4, lk F5, lk F6, lk F7, lk F8, lk F9, lk F10, lk F11, lk F12, lk F13, lk F14, lk F15, lk F16, lk F17, lk F18, lk F19, lk F20, lk F21, lk F22, lk F23, lk F24, lk F25, lk F26, lk F27, lk F28, lk F29, lk F30, lk F31, lk F32, lk F33, lk F34, lk F35, fun _ => rfl, lk F37, lk F38, lk F39, lk F40, lk F41, lk F42, lk F43, lk F44, lk F45, lk F46, lk F47, lk F48, lk F49, lk F50, lk F51, lk F52, lk F53, lk F54, lk F55, F56, F57, F58, F59, F60, F61, F62, F63, F64, F65, F66, F67, F68, F69⟩
    · simp only [List.getElem?_toArray, List.getElem?_cons_zero, List.getElem?_cons_succ, Option.some.injEq] at ho
      subst ho
      obtain rfl := F35 (hd ⟨35, .guard⟩ (by simp) rfl)
      refine wpOp_step rfl (fun K hK => ?_)
      go_simp
      refine hK _ _ ?_
      exact ⟨_, _, _, _, _, _, _, _, _, _, _, _, _, _, _, _, _, _, _, _, _, _, _, _, _, _, _, _, _, _, _, _, _, _, _, _, _, _, _, _, _, _, _, _, _, _, _, _, _, _, _, _, _, _, _, _, rfl, lk F0, lk F1, lk F2, lk F3, lk F4, lk F5, lk F6, lk F7, lk F8, lk F9, lk F10, lk F11, lk F12, lk F13, lk F14, lk F15, lk F16, lk F17, lk F18, lk F19, lk F20, lk F21, lk F22, lk F23, lk F24, lk F25, lk F26, lk F27, lk F28, lk F29, lk F30, lk F31, lk F32, lk F33, lk F34, lk F35, lk F36, fun _ => rfl, lk F38, lk F39, lk F40, lk F41, lk F42, lk F43, lk F44, lk F45, lk F46, lk F47, lk F48, lk F49, lk F50, lk F51, lk F52, lk F53, lk F54, lk F55, F56, F57, F58, F59, F60, F61, F62, F63, F64, F65, F66, F67, F68, F69⟩
    · simp only [List.getElem?_toArray, List.getElem?_cons_zero, List.getElem?_cons_succ, Option.some.injEq] at ho
      subst ho
      obtain rfl := F36 (hd ⟨36, .data⟩ (by simp) rfl)
      obtain rfl := F37 (hd ⟨37, .data⟩ (by simp) rfl)
      obtain rfl := F35 (hd ⟨35, .guard⟩ (by simp) rfl)
      refine wpOp_step rfl (fun K hK => ?_)
      go_simp
      go_at_call 28
      refine (H2.out.call _).mono ?_
      rintro e w' ⟨rfl, hb⟩
      refine hK _ _ ?_
      exact ⟨_, _, _, _, _, _, _, _, _, _, _, _, _, _, _, _, _, _, _, _, _, _, _, _, _, _, _, _, _, _, _, _, _, _, _, _, _, _, _, _, _, _, _, _, _, _, _, _, _, _, _, _, _, _, _, _, rfl, lk F0, lk F1, lk F2, lk F3, lk F4, lk F5, lk F6, lk F7, lk F8, lk F9, lk F10, lk F11, lk F12, lk F13, lk F14, lk F15, lk F16, lk F17, lk F18, lk F19, lk F20, lk F21, lk F22, lk F23, lk F24, lk F25, lk F26, lk F27, lk F28, lk F29, lk F30, lk F31, lk F32, lk F33, lk F34, lk F35, lk F36, lk F37, fun _ => rfl, lk F39, lk F40, lk F41, lk F42, lk F43, lk F44, lk F45, lk F46, lk F47, lk F48, lk F49, lk F50, lk F51, lk F52, lk F53, lk F54, lk F55, bt F56 hb, cell_call F57 hb, cell_call F58 hb, cell_call F59 hb, cell_call F60 hb, cell_call F61 hb, cell_call F62 hb, cell_call F63 hb, cell_call F64 hb, cell_call F65 hb, cell_call F66 hb, cell_call F67 hb, cell_call F68 hb, cell_call F69 hb⟩
    · simp only [List.getElem?_toArray, List.getElem?_cons_zero, List.getElem?_cons_succ, Option.some.injEq] at ho
      subst ho
      obtain rfl := F38 (hd ⟨38, .data⟩ (by simp) rfl)
      obtain rfl := F35 (hd ⟨35, .guard⟩ (by simp) rfl)
      refine wpOp_step rfl (fun K hK => ?_)
      go_simp
      refine hK _ _ ?_
      exact ⟨_, _, _, _, _, _, _, _, _, _, _, _, _, _, _, _, _, _, _, _, _, _, _, _, _, _, _, _, _, _, _, _, _, _, _, _, _, _, _, _, _, _, _, _, _, _, _, _, _, _, _, _, _, _, _, _, rfl, lk F0, lk F1, lk F2, lk F3, lk F4, lk F5, lk F6, lk F7, lk F8, lk F9, lk F10, lk F11, lk F12, lk F13, lk F14, lk F15, lk F16, lk F17, lk F18, lk F19, lk F20, lk F21, lk F22, lk F23, lk F24, lk F25, lk F26, lk F27, lk F28, lk F29, lk F30, lk F31, lk F32, lk F33, lk F34, lk F35, lk F36, lk F37, lk F38, fun _ => rfl, lk F40, lk F41, lk F42, lk F43, lk F44, lk F45, lk F46, lk F47, lk F48, lk F49, lk F50, lk F51, lk F52, lk F53, lk F54, lk F55, F56, F57, F58, F59, F60, F61, F62, F63, F64, F65, F66, F67, F68, F69⟩
    · simp only [List.getElem?_toArray, List.getElem?_cons_zero, List.getElem?_cons_succ, Option.some.injEq] at ho
      subst ho
      obtain rfl := F35 (hd ⟨35, .data⟩ (by simp) rfl)
      obtain rfl := F39 (hd ⟨39, .data⟩ (by simp) rfl)
      refine wpOp_step rfl (fun K hK => ?_)
      go_simp
      refine hK _ _ ?_
      exact ⟨_, _, _, _, _, _, _, _, _, _, _, _, _, _, _, _, _, _, _, _, _, _, _, _, _, _, _, _, _, _, _, _, _, _, _, _, _, _, _, _, _, _, _, _, _, _, _, _, _, _, _, _, _, _, _, _, rfl, lk F0, lk F1, lk F2, lk F3, lk F4, lk F5, lk F6, lk F7, lk F8, lk F9, lk F10, lk F11, lk F12, lk F13, lk F14, lk F15, lk F16, lk F17, lk F18, lk F19, lk F20, lk F21, lk F22, lk F23, lk F24, lk F25, lk F26, lk F27, lk F28, lk F29, lk F30, lk F31, lk F32, lk F33, lk F34, lk F35, lk F36, lk F37, lk F38, lk F39, fun _ => rfl, lk F41, lk F42, lk F43, lk F44, lk F45, lk F46, lk F47, lk F48, lk F49, lk F50, lk F51, lk F52, lk F53, lk F54, lk F55, F56, F57, F58, F59, F60, F61, F62, F63, F64, F65, F66, F67, F68, F69⟩
    · simp only [List.getElem?_toArray, List.getElem?_cons_zero, List.getElem?_cons_succ, Option.some.injEq] at ho
      subst ho
      obtain rfl := F40 (hd ⟨40, .data⟩ (by simp) rfl)
      refine wpOp_step rfl (fun K hK => ?_)
      go_simp
      refine hK _ _ ?_
      exact ⟨_, _, _, _, _, _, _, _, _, _, _, _, _, _, _, _, _, _, _, _, _, _, _, _, _, _, _, _, _, _, _, _, _, _, _, _, _, _, _, _, _, _, _, _, _, _, _, _, _, _, _, _, _, _, _, _, rfl, lk F0, lk F1, lk F2, lk F3, lk F4, lk F5, lk F6, lk F7, lk F8, lk F9, lk F10, lk F11, lk F12, lk F13, lk F14, lk F15, lk F16, lk F17, lk F18, lk F19, lk F20, lk F21, lk F22, lk F23, lk F24, lk F25, lk F26, lk F27, lk F28, lk F29, lk F30, lk F31, lk F32, lk F33, lk F34, lk F35, lk F36, lk F37, lk F38, lk F39, lk F40, fun _ => rfl, lk F42, lk F43, lk F44, lk F45, lk F46, lk F47, lk F48, lk F49, lk F50, lk F51, lk F52, lk F53, lk F54, lk F55, F56, F57, F58, F59, F60, F61, F62, F63, F64, F65, F66, F67, F68, F69⟩
    · simp only [List.getElem?_toArray, List.getElem?_cons_zero, List.getElem?_cons_succ, Option.some.injEq] at ho
      subst ho
      obtain rfl := F41 (hd ⟨41, .guard⟩ (by simp) rfl)
      refine wpOp_step rfl (fun K hK => ?_)
      go_simp
      refine hK _ _ ?_
      exact ⟨_, _, _, _, _, _, _, _, _, _, _, _, _, _, _, _, _, _, _, _, _, _, _, _, _, _, _, _, _, _, _, _, _, _, _, _, _, _, _, _, _, _, _, _, _, _, _, _, _, _, _, _, _, _, _, _, rfl, lk F0, lk F1, lk F2, lk F3, lk F4, lk F5, lk F6, lk F7, lk F8, lk F9, lk F10, lk F11, lk F12, lk F13, lk F14, lk F15, lk F16, lk F17, lk F18, lk F19, lk F20, lk F21, lk F22, lk F23, lk F24, lk F25, lk F26, lk F27, lk F28, lk F29, lk F30, lk F31, lk F32, lk F33, lk F34, lk F35, lk F36, lk F37, lk F38, lk F39, lk F40, lk F41, fun _ => rfl, lk F43, lk F44, lk F45, lk F46, lk F47, lk F48, lk F49, lk F50, lk F51, lk F52, lk F53, lk F54, lk F55, F56, F57, F58, F59, F60, F61, F62, F63, F64, F65, F66, F67, F68, F69⟩
    · simp only [List.getElem?_toArray, List.getElem?_cons_zero, List.getElem?_cons_succ, Option.some.injEq] at ho
      subst ho
      obtain rfl := F42 (hd ⟨42, .data⟩ (by simp) rfl)
      obtain rfl := F41 (hd ⟨41, .guard⟩ (by simp) rfl)
      have h0 := F57; have h1 := F58; have h2 := F59; have h3 := F60; have h4 := F61; have h5 := F62; have h6 := F63; have h7 := F64; have h8 := F65; have h9 := F66; have h10 := F67; have h11 := F68; have h12 := F69
      refine wpOp_step rfl (fun K hK => ?_)
      go_simp
      refine hK _ _ ?_
      exact ⟨_, _, _, _, _, _, _, _, _, _, _, _, _, _, _, _, _, _, _, _, _, _, _, _, _, _, _, _, _, _, _, _, _, _, _, _, _, _, _, _, _, _, _, _, _, _, _, _, _, _, _, _, _, _, _, _, rfl, lk F0, lk F1, lk F2, lk F3, lk F4, lk F5, lk F6, lk F7, lk F8, lk F9, lk F10, lk F11, lk F12, lk F13, lk F14, lk F15, lk F16, lk F17, lk F18, lk F19, lk F20, lk F21, lk F22, lk F23, lk F24, lk F25, lk F26, lk F27, lk F28, lk F29, lk F30, lk F31, lk F32, lk F33, lk F34, lk F35, lk F36, lk F37, lk F38, lk F39, lk F40, lk F41, lk F42, fun _ => rfl, lk F44, lk F45, lk F46, lk F47, lk F48, lk F49, lk F50, lk F51, lk F52, lk F53, lk F54, lk F55, F56, F57, F58, F59, F60, F61, F62, F63, F64, F65, F66, F67, F68, F69⟩
    · simp only [List.getElem?_toArray, List.getElem?_cons_zero, List.getElem?_cons_succ, Option.some.injEq] at ho
      subst ho
      obtain rfl := F43 (hd ⟨43, .data⟩ (by simp) rfl)
      obtain rfl := F41 (hd ⟨41, .guard⟩ (by simp) rfl)
      refine wpOp_step rfl (fun K hK => ?_)
      go_simp
      refine hK _ _ ?_
      exact ⟨_, _, _, _, _, _, _, _, _, _, _, _, _, _, _, _, _, _, _, _, _, _, _, _, _, _, _, _, _, _, _, _, _, _, _, _, _, _, _, _, _, _, _, _, _, _, _, _, _, _, _, _, _, _, _, _, rfl, lk F0, lk F1, lk F2, lk F3, lk F4, lk F5, lk F6, lk F7, lk F8, lk F9, lk F10, lk F11, lk F12, lk F13, lk F14, lk F15, lk F16, lk F17, lk F18, lk F19, lk F20, lk F21, lk F22, lk F23, lk F24, lk F25, lk F26, lk F27, lk F28, lk F29, lk F30, lk F31, lk F32, lk F33, lk F34, lk F35, lk F36, lk F37, lk F38, lk F39, lk F40, lk F41, lk F42, lk F43, fun _ => rfl, lk F45, lk F46, lk F47, lk F48, lk F49, lk F50, lk F51, lk F52, lk F53, lk F54, lk F55, F56, F57, F58, F59, F60, F61, F62, F63, F64, F65, F66, F67, F68, F69⟩
    · simp only [List.getElem?_toArray, List.getElem?_cons_zero, List.getElem?_cons_succ, Option.some.injEq] at ho
      subst ho
      obtain rfl := F44 (hd ⟨44, .data⟩ (by simp) rfl)
      obtain rfl := F41 (hd ⟨41, .guard⟩ (by simp) rfl)
      refine wpOp_step rfl (fun K hK => ?_)
      go_simp
      refine hK _ _ ?_
      exact ⟨_, _, _, _, _, _, _, _, _, _, _, _, _, _, _, _, _, _, _, _, _, _, _, _, _, _, _, _, _, _, _, _, _, _, _, _, _, _, _, _, _, _, _, _, _, _, _, _, _, _, _, _, _, _, _, _, rfl, lk F0, lk F1, lk F2, lk F3, lk F4, lk F5, lk F6, lk F7, lk F8, lk F9, lk F10, lk F11, lk F12, lk F13, lk F14, lk F15, lk F16, lk F17, lk F18, lk F19, lk F20, lk F21, lk F22, lk F23, lk F24, lk F25, lk F26, lk F27, lk F28, lk F29, lk F30, lk F31, lk F32, lk F33, lk F34, lk F35, lk F36, lk F37, lk F38, lk F39, lk F40, lk F41, lk F42, lk F43, lk F44, fun _ => rfl, lk F46, lk F47, lk F48, lk F49, lk F50, lk F51, lk F52, lk F53, lk F54, lk F55, F56, F57, F58, F59, F60, F61, F62, F63, F64, F65, F66, F67, F68, F69⟩
    · simp only [List.getElem?_toArray, List.getElem?_cons_zero, List.getElem?_cons_succ, Option.some.injEq] at ho
      subst ho
      obtain rfl := F45 (hd ⟨45, .guard⟩ (by simp) rfl)
      refine wpOp_step rfl (fun K hK => ?_)
      go_simp
      refine hK _ _ ?_
      exact ⟨_, _, _, _, _, _, _, _, _, _, _, _, _, _, _, _, _, _, _, _, _, _, _, _, _, _, _, _, _, _, _, _, _, _, _, _, _, _, _, _, _, _, _, _, _, _, _, _, _, _, _, _, _, _, _, _, rfl, lk F0, lk F1, lk F2, lk F3, lk F4, lk F5, lk F6, lk F7, lk F8, lk F9, lk F10, lk F11, lk F12, lk F13, lk F14, lk F15, lk F16, lk F17, lk F18, lk F19, lk F20, lk F21, lk F22, lk F23, lk F24, lk F25, lk F26, lk F27, lk F28, lk F29, lk F30, lk F31, lk F32, lk F33, lk F34, lk F35, lk F36, lk F37, lk F38, lk F39, lk F40, lk F41, lk F42, lk F43, lk F44, lk F45, fun _ => rfl, lk F47, lk F48, lk F49, lk F50, lk F51, lk F52, lk F53, lk F54, lk F55, F56, F57, F58, F59, F60, F61, F62, F63, F64, F65, F66, F67, F68, F69⟩
    · simp only [List.getElem?_toArray, List.getElem?_cons_zero, List.getElem?_cons_succ, Option.some.injEq] at ho
      subst ho
      obtain rfl := F45 (hd ⟨45, .guard⟩ (by simp) rfl)
      refine wpOp_step rfl (fun K hK => ?_)
      go_simp
      refine hK _ _ ?_
      exact ⟨_, _, _, _, _, _, _, _, _, _, _, _, _, _, _, _, _, _, _, _, _, _, _, _, _, _, _, _, _, _, _, _, _, _, _, _, _, _, _, _, _, _, _, _, _, _, _, _, _, _, _, _, _, _, _, _, rfl, lk F0, lk F1, lk F2, lk F3, lk F4, lk F5, lk F6, lk F7, lk F8, lk F9, lk F10, lk F11, lk F12, lk F13, lk F14, lk F15, lk F16, lk F17, lk F18, lk F19, lk F20, lk F21, lk F22, lk F23, lk F24, lk F25, lk F26, lk F27, lk F28, lk F29, lk F30, lk F31, lk F32, lk F33, lk F34, lk F35, lk F36, lk F37, lk F38, lk F39, lk F40, lk F41, lk F42, lk F43, lk F44, lk F45, lk F46, fun _ => rfl, lk F48, lk F49, lk F50, lk F51, lk F52, lk F53, lk F54, lk F55, F56, F57, F58, F59, F60, F61, F62, F63, F64, F65, F66, F67, F68, F69⟩
    · simp only [List.getElem?_toArray, List.getElem?_cons_zero, List.getElem?_cons_succ, Option.some.injEq] at ho
      subst ho
      obtain rfl := F45 (hd ⟨45, .guard⟩ (by simp) rfl)
      refine wpOp_step rfl (fun K hK => ?_)
      go_simp
      refine hK _ _ ?_
      exact ⟨_, _, _, _, _, _, _, _, _, _, _, _, _, _, _, _, _, _, _, _, _, _, _, _, _, _, _, _, _, _, _, _, _, _, _, _, _, _, _, _, _, _, _, _, _, _, _, _, _, _, _, _, _, _, _, _, rfl, lk F0, lk F1, lk F2, lk F3, lk F4, lk F5, lk F6, lk F7, lk F8, lk F9, lk F10, lk F11, lk F12, lk F13, lk F14, lk F15, lk F16, lk F17, lk F18, lk F19, lk F20, lk F21, lk F22, lk F23, lk F24, lk F25, lk F26, lk F27, lk F28, lk F29, lk F30, lk F31, lk F32, lk F33, lk F34, lk F35, lk F36, lk F37, lk F38, lk F39, lk F40, lk F41, lk F42, lk F43, lk F44, lk F45, lk F46, lk F47, fun _ => rfl, lk F49, lk F50, lk F51, lk F52, lk F53, lk F54, lk F55, F56, F57, F58, F59, F60, F61, F62, F63, F64, F65, F66, F67, F68, F69⟩
    · simp only [List.getElem?_toArray, List.getElem?_cons_zero, List.getElem?_cons_succ, Option.some.injEq] at ho
      subst ho
      obtain rfl := F45 (hd ⟨45, .guard⟩ (by simp) rfl)
      refine wpOp_step rfl (fun K hK => ?_)
      go_simp
      refine hK _ _ ?_
      exact ⟨_, _, _, _, _, _, _, _, _, _, _, _, _, _, _, _, _, _, _, _, _, _, _, _, _, _, _, _, _, _, _, _, _, _, _, _, _, _, _, _, _, _, _, _, _, _, _, _, _, _, _, _, _, _, _, _, rfl, lk F0, lk F1, lk F2, lk F3, lk F4, lk F5, lk F6, lk F7, lk F8, lk F9, lk F10, lk F11, lk F12, lk F13, lk F14, lk F15, lk F16, lk F17, lk F18, lk F19, lk F20, lk F21, lk F22, lk F23, lk F24, lk F25, lk F26, lk F27, lk F28, lk F29, lk F30, lk F31, lk F32, lk F33, lk F34, lk F35, lk F36, lk F37, lk F38, lk F39, lk F40, lk F41, lk F42, lk F43, lk F44, lk F45, lk F46, lk F47, lk F48, fun _ => rfl, lk F50, lk F51, lk F52, lk F53, lk F54, lk F55, F56, F57, F58, F59, F60, F61, F62, F63, F64, F65, F66, F67, F68, F69⟩
    · simp only [List.getElem?_toArray, List.getElem?_cons_zero, List.getElem?_cons_succ, Option.some.injEq] at ho
      subst ho
      obtain rfl := F45 (hd ⟨45, .guard⟩ (by simp) rfl)
      refine wpOp_step rfl (fun K hK => ?_)
      go_simp
      refine hK _ _ ?_
      exact ⟨_, _, _, _, _, _, _, _, _, _, _, _, _, _, _, _, _, _, _, _, _, _, _, _, _, _, _, _, _, _, _, _, _, _, _, _, _, _, _, _, _, _, _, _, _, _, _, _, _, _, _, _, _, _, _, _, rfl, lk F0, lk F1, lk F2, lk F3, lk F4, lk F5, lk F6, lk F7, lk F8, lk F9, lk F10, lk F11, lk F12, lk F13, lk F14, lk F15, lk F16, lk F17, lk F18, lk F19, lk F20, lk F21, lk F22, lk F23, lk F24, lk F25, lk F26, lk F27, lk F28, lk F29, lk F30, lk F31, lk F32, lk F33, lk F34, lk F35, lk F36, lk F37, lk F38, lk F39, lk F40, lk F41, lk F42, lk F43, lk F44, lk F45, lk F46, lk F47, lk F48, lk F49, fun _ => rfl, lk F51, lk F52, lk F53, lk F54, lk F55, F56, F57, F58, F59, F60, F61, F62, F63, F64, F65, F66, F67, F68, F69⟩
    · simp only [List.getElem?_toArray, List.getElem?_cons_zero, List.getElem?_cons_succ, Option.some.injEq] at ho
      subst ho
      obtain rfl := F45 (hd ⟨45, .guard⟩ (by simp) rfl)
      refine wpOp_step rfl (fun K hK => ?_)
      go_simp
      refine hK _ _ ?_
      exact ⟨_, _, _, _, _, _, _, _, _, _, _, _, _, _, _, _, _, _, _, _, _, _, _, _, _, _, _, _, _, _, _, _, _, _, _, _, _, _, _, _, _, _, _, _, _, _, _, _, _, _, _, _, _, _, _, _, rfl, lk F0, lk F1, lk F2, lk F3, lk F4, lk F5, lk F6, lk F7, lk F8, lk F9, lk F10, lk F11, lk F12, lk F13, lk F14, lk F15, lk F16, lk F17, lk F18, lk F19, lk F20, lk F21, lk F22, lk F23, lk F24, lk F25, lk F26, lk F27, lk F28, lk F29, lk F30, lk F31, lk F32, lk F33, lk F34, lk F35, lk F36, lk F37, lk F38, lk F39, lk F40, lk F41, lk F42, lk F43, lk F44, lk F45, lk F46, lk F47, lk F48, lk F49, lk F50, fun _ => rfl, lk F52, lk F53, lk F54, lk F55, F56, F57, F58, F59, F60, F61, F62, F63, F64, F65, F66, F67, F68, F69⟩
    · simp only [List.getElem?_toArray, List.getElem?_cons_zero, List.getElem?_cons_succ, Option.some.injEq] at ho
      subst ho
      obtain rfl := F45 (hd ⟨45, .guard⟩ (by simp) rfl)
      refine wpOp_step rfl (fun K hK => ?_)
      go_simp
      refine hK _ _ ?_
      exact ⟨_, _, _, _, _, _, _, _, _, _, _, _, _, _, _, _, _, _, _, _, _, _, _, _, _, _, _, _, _, _, _, _, _, _, _, _, _, _, _, _, _, _, _, _, _, _, _, _, _, _, _, _, _, _, _, _, rfl, lk F0, lk F1, lk F2, lk F3, lk F4, lk F5, lk F6, lk F7, lk F8, lk F9, lk F10, lk F11, lk F12, lk F13, lk F14, lk F15, lk F16, lk F17, lk F18, lk F19, lk F20, lk F21, lk F22, lk F23, lk F24, lk F25, lk F26, lk F27, lk F28, lk F29, lk F30, lk F31, lk F32, lk F33, lk F34, lk F35, lk F36, lk F37, lk F38, lk F39, lk F40, lk F41, lk F42, lk F43, lk F44, lk F45, lk F46, lk F47, lk F48, lk F49, lk F50, lk F51, fun _ => rfl, lk F53, lk F54, lk F55, F56, F57, F58, F59, F60, F61, F62, F63, F64, F65, F66, F67, F68, F69⟩
    · simp only [List.getElem?_toArray, List.getElem?_cons_zero, List.getElem?_cons_succ, Option.some.injEq] at ho
      subst ho
      obtain rfl := F45 (hd ⟨45, .data⟩ (by simp) rfl)
      obtain rfl := F41 (hd ⟨41, .guard⟩ (by simp) rfl)
      refine wpOp_step rfl (fun K hK => ?_)
      go_simp
      refine hK _ _ ?_
      exact ⟨_, _, _, _, _, _, _, _, _, _, _, _, _, _, _, _, _, _, _, _, _, _, _, _, _, _, _, _, _, _, _, _, _, _, _, _, _, _, _, _, _, _, _, _, _, _, _, _, _, _, _, _, _, _, _, _, rfl, lk F0, lk F1, lk F2, lk F3, lk F4, lk F5, lk F6, lk F7, lk F8, lk F9, lk F10, lk F11, lk F12, lk F13, lk F14, lk F15, lk F16, lk F17, lk F18, lk F19, lk F20, lk F21, lk F22, lk F23, lk F24, lk F25, lk F26, lk F27, lk F28, lk F29, lk F30, lk F31, lk F32, lk F33, lk F34, lk F35, lk F36, lk F37, lk F38, lk F39, lk F40, lk F41, lk F42, lk F43, lk F44, lk F45, lk F46, lk F47, lk F48, lk F49, lk F50, lk F51, lk F52, fun _ => rfl, lk F54, lk F55, F56, F57, F58, F59, F60, F61, F62, F63, F64, F65, F66, F67, F68, F69⟩
    · simp only [List.getElem?_toArray, List.getElem?_cons_zero, List.getElem?_cons_succ, Option.some.injEq] at ho
      subst ho
      obtain rfl := F41 (hd ⟨41, .data⟩ (by simp) rfl)
      obtain rfl := F53 (hd ⟨53, .data⟩ (by simp) rfl)
      refine wpOp_step rfl (fun K hK => ?_)
      go_simp
      refine hK _ _ ?_
      exact ⟨_, _, _, _, _, _, _, _, _, _, _, _, _, _, _, _, _, _, _, _, _, _, _, _, _, _, _, _, _, _, _, _, _, _, _, _, _, _, _, _, _, _, _, _, _, _, _, _, _, _, _, _, _, _, _, _, rfl, lk F0, lk F1, lk F2, lk F3, lk F4, lk F5, lk F6, lk F7, lk F8, lk F9, lk F10, lk F11, lk F12, lk F13, lk F14, lk F15, lk F16, lk F17, lk F18, lk F19, lk F20, lk F21, lk F22, lk F23, lk F24, lk F25, lk F26, lk F27, lk F28, lk F29, lk F30, lk F31, lk F32, lk F33, lk F34, lk F35, lk F36, lk F37, lk F38, lk F39, lk F40, lk F41, lk F42, lk F43, lk F44, lk F45, lk F46, lk F47, lk F48, lk F49, lk F50, lk F51, lk F52, lk F53, fun _ => rfl, lk F55, F56, F57, F58, F59, F60, F61, F62, F63, F64, F65, F66, F67, F68, F69⟩
    · simp only [List.getElem?_toArray, List.getElem?_cons_zero, List.getElem?_cons_succ, Option.some.injEq] at ho
      subst ho
      obtain rfl := F54 (hd ⟨54, .data⟩ (by simp) rfl)
      refine wpOp_step rfl (fun K hK => ?_)
      go_simp
      refine hK _ _ ?_
      exact ⟨_, _, _, _, _, _, _, _, _, _, _, _, _, _, _, _, _, _, _, _, _, _, _, _, _, _, _, _, _, _, _, _, _, _, _, _, _, _, _, _, _, _, _, _, _, _, _, _, _, _, _, _, _, _, _, _, rfl, lk F0, lk F1, lk F2, lk F3, lk F4, lk F5, lk F6, lk F7, lk F8, lk F9, lk F10, lk F11, lk F12, lk F13, lk F14, lk F15, lk F16, lk F17, lk F18, lk F19, lk F20, lk F21, lk F22, lk F23, lk F24, lk F25, lk F26, lk F27, lk F28, lk F29, lk F30, lk F31, lk F32, lk F33, lk F34, lk F35, lk F36, lk F37, lk F38, lk F39, lk F40, lk F41, lk F42, lk F43, lk F44, lk F45, lk F46, lk F47, lk F48, lk F49, lk F50, lk F51, lk F52, lk F53, lk F54, fun _ => rfl, F56, F57, F58, F59, F60, F61, F62, F63, F64, F65, F66, F67, F68, F69⟩
  · intro listed A w hall hI
    unfold NzI at hI
    obtain ⟨s2, hI⟩ := hI
    obtain ⟨s52, hI⟩ := hI
    obtain ⟨s53, hI⟩ := hI
    obtain ⟨s54, hI⟩ := hI
    obtain ⟨s55, hI⟩ := hI
    obtain ⟨s56, hI⟩ := hI
    obtain ⟨s57, hI⟩ := hI
    obtain ⟨s58, hI⟩ := hI
    obtain ⟨s59, hI⟩ := hI
    obtain ⟨s60, hI⟩ := hI
    obtain ⟨s61, hI⟩ := hI
    obtain ⟨s62, hI⟩ := hI
    obtain ⟨s63, hI⟩ := hI
    obtain ⟨s64, hI⟩ := hI
    obtain ⟨s65, hI⟩ := hI
    obtain ⟨s66, hI⟩ := hI
    obtain ⟨s67, hI⟩ := hI
    obtain ⟨s68, hI⟩ := hI
    obtain ⟨s69, hI⟩ := hI
    obtain ⟨s70, hI⟩ := hI
    obtain ⟨s71, hI⟩ := hI
    obtain ⟨s72, hI⟩ := hI
    obtain ⟨s73, hI⟩ := hI
    obtain ⟨s74, hI⟩ := hI
    obtain ⟨s75, hI⟩ := hI
    obtain ⟨s76, hI⟩ := hI
    obtain ⟨s77, hI⟩ := hI
    obtain ⟨s78, hI⟩ := hI
    obtain ⟨s79, hI⟩ := hI
    obtain ⟨s80, hI⟩ := hI
    obtain ⟨s81, hI⟩ := hI
    obtain ⟨s82, hI⟩ := hI
    obtain ⟨s83, hI⟩ := hI
    obtain ⟨s84, hI⟩ := hI
    obtain ⟨s85, hI⟩ := hI
    obtain ⟨s86, hI⟩ := hI
    obtain ⟨s87, hI⟩ := hI
    obtain ⟨s88, hI⟩ := hI
    obtain ⟨s89, hI⟩ := hI
    obtain ⟨s90, hI⟩ := hI
    obtain ⟨s91, hI⟩ := hI
    obtain ⟨s92, hI⟩ := hI
    obtain ⟨s93, hI⟩ := hI
    obtain ⟨s94, hI⟩ := hI
    obtain ⟨s95, hI⟩ := hI
    obtain ⟨s96, hI⟩ := hI
    obtain ⟨s97, hI⟩ := hI
    obtain ⟨s98, hI⟩ := hI
    obtain ⟨s99, hI⟩ := hI
    obtain ⟨s100, hI⟩ := hI
    obtain ⟨s101, hI⟩ := hI
    obtain ⟨s102, hI⟩ := hI
    obtain ⟨s103, hI⟩ := hI
    obtain ⟨s104, hI⟩ := hI
    obtain ⟨s105, hI⟩ := hI
    obtain ⟨s106, hI⟩ := hI
    obtain ⟨rfl, hI⟩ := hI
    obtain ⟨F0, hI⟩ := hI
    obtain ⟨F1, hI⟩ := hI
    obtain ⟨F2, hI⟩ := hI
    obtain ⟨F3, hI⟩ := hI
    obtain ⟨F4, hI⟩ := hI
    obtain ⟨F5, hI⟩ := hI
    obtain ⟨F6, hI⟩ := hI
    obtain ⟨F7, hI⟩ := hI
    obtain ⟨F8, hI⟩ := hI
    obtain ⟨F9, hI⟩ := hI
    obtain ⟨F10, hI⟩ := hI
    obtain ⟨F11, hI⟩ := hI
    obtain ⟨F12, hI⟩ := hI
    obtain ⟨F13, hI⟩ := hI
    obtain ⟨F14, hI⟩ := hI
    obtain ⟨F15, hI⟩ := hI
    obtain ⟨F16, hI⟩ := hI
    obtain ⟨F17, hI⟩ := hI
    obtain ⟨F18, hI⟩ := hI
    obtain ⟨F19, hI⟩ := hI
    obtain ⟨F20, hI⟩ := hI
    obtain ⟨F21, hI⟩ := hI
    obtain ⟨F22, hI⟩ := hI
    obtain ⟨F23, hI⟩ := hI
    obtain ⟨F24, hI⟩ := hI
    obtain ⟨F25, hI⟩ := hI
    obtain ⟨F26, hI⟩ := hI
    obtain ⟨F27, hI⟩ := hI
    obtain ⟨F28, hI⟩ := hI
    obtain ⟨F29, hI⟩ := hI
    obtain ⟨F30, hI⟩ := hI
    obtain ⟨F31, hI⟩ := hI
    obtain ⟨F32, hI⟩ := hI
    obtain ⟨F33, hI⟩ := hI
    obtain ⟨F34, hI⟩ := hI
    obtain ⟨F35, hI⟩ := hI
    obtain ⟨F36, hI⟩ := hI
    obtain ⟨F37, hI⟩ := hI
    obtain ⟨F38, hI⟩ := hI
    obtain ⟨F39, hI⟩ := hI
    obtain ⟨F40, hI⟩ := hI
    obtain ⟨F41, hI⟩ := hI
    obtain ⟨F42, hI⟩ := hI
    obtain ⟨F43, hI⟩ := hI
    obtain ⟨F44, hI⟩ := hI
    obtain ⟨F45, hI⟩ := hI
    obtain ⟨F46, hI⟩ := hI
    obtain ⟨F47, hI⟩ := hI
    obtain ⟨F48, hI⟩ := hI
    obtain ⟨F49, hI⟩ := hI
    obtain ⟨F50, hI⟩ := hI
    obtain ⟨F51, hI⟩ := hI
    obtain ⟨F52, hI⟩ := hI
    obtain ⟨F53, hI⟩ := hI
    obtain ⟨F54, hI⟩ := hI
    obtain ⟨F55, hI⟩ := hI
    obtain ⟨F56, hI⟩ := hI
    obtain ⟨F57, hI⟩ := hI
    obtain ⟨F58, hI⟩ := hI
    obtain ⟨F59, hI⟩ := hI
    obtain ⟨F60, hI⟩ := hI
    obtain ⟨F61, hI⟩ := hI
    obtain ⟨F62, hI⟩ := hI
    obtain ⟨F63, hI⟩ := hI
    obtain ⟨F64, hI⟩ := hI
    obtain ⟨F65, hI⟩ := hI
    obtain ⟨F66, hI⟩ := hI
    obtain ⟨F67, hI⟩ := hI
    obtain ⟨F68, hI⟩ := hI
    have F69 := hI; clear hI
    obtain rfl := F0 (hall 0 (by decide))
    obtain rfl := F1 (hall 1 (by decide))
    obtain rfl := F2 (hall 2 (by decide))
    obtain rfl := F3 (hall 3 (by decide))
    obtain rfl := F4 (hall 4 (by decide))
    obtain rfl := F5 (hall 5 (by decide))
    obtain rfl := F6 (hall 6 (by decide))
    obtain rfl := F7 (hall 7 (by decide))
    obtain rfl := F8 (hall 8 (by decide))
    obtain rfl := F9 (hall 9 (by decide))
    obtain rfl := F10 (hall 10 (by decide))
    obtain rfl := F11 (hall 11 (by decide))
    obtain rfl := F12 (hall 12 (by decide))
    obtain rfl := F13 (hall 13 (by decide))
    obtain rfl := F14 (hall 14 (by decide))
    obtain rfl := F15 (hall 15 (by decide))
    obtain rfl := F16 (hall 16 (by decide))
    obtain rfl := F17 (hall 17 (by decide))
    obtain rfl := F18 (hall 18 (by decide))
    obtain rfl := F19 (hall 19 (by decide))
    obtain rfl := F20 (hall 20 (by decide))
    obtain rfl := F21 (hall 21 (by decide))
    obtain rfl := F22 (hall 22 (by decide))
    obtain rfl := F23 (hall 23 (by decide))
    obtain rfl := F24 (hall 24 (by decide))
    obtain rfl := F25 (hall 25 (by decide))
    obtain rfl := F26 (hall 26 (by decide))
    obtain rfl := F27 (hall 27 (by decide))
    obtain rfl := F28 (hall 28 (by decide))
    obtain rfl := F29 (hall 29 (by decide))
    obtain rfl := F30 (hall 30 (by decide))
    obtain rfl := F31 (hall 31 (by decide))
    obtain rfl := F32 (hall 32 (by decide))
    obtain rfl := F33 (hall 33 (by decide))
    obtain rfl := F34 (hall 34 (by decide))
    obtain rfl := F35 (hall 35 (by decide))
    obtain rfl := F36 (hall 36 (by decide))
    obtain rfl := F37 (hall 37 (by decide))
    obtain rfl := F38 (hall 38 (by decide))
    obtain rfl := F39 (hall 39 (by decide))
    obtain rfl := F40 (hall 40 (by decide))
    obtain rfl := F41 (hall 41 (by decide))
    obtain rfl := F42 (hall 42 (by decide))
    obtain rfl := F43 (hall 43 (by decide))
    obtain rfl := F44 (hall 44 (by decide))
    obtain rfl := F45 (hall 45 (by decide))
    obtain rfl := F46 (hall 46 (by decide))
    obtain rfl := F47 (hall 47 (by decide))
    obtain rfl := F48 (hall 48 (by decide))
    obtain rfl := F49 (hall 49 (by decide))
    obtain rfl := F50 (hall 50 (by decide))
    obtain rfl := F51 (hall 51 (by decide))
    obtain rfl := F52 (hall 52 (by decide))
    obtain rfl := F53 (hall 53 (by decide))
    obtain rfl := F54 (hall 54 (by decide))
    obtain rfl := F55 (hall 55 (by decide))
    have HB := F56
    have Q0 := F57
    have Q1 := F58
    have Q2 := F59
    have Q3 := F60
    have Q4 := F61
    have Q5 := F62
    have Q6 := F63
    have Q7 := F64
    have Q8 := F65
    have Q9 := F66
    have Q10 := F67
    have Q11 := F68
    have Q12 := F69
    exact hQ _ trivial HB
end Go.Proofs.YtemgabmafmehnaaGreatDoor
