/- The statement TypesKinds: a region that draws its order. No condition beyond what the theorems state. -/
import Derived.Test.YtjpopmgnhgancaaDoorKdK
namespace Go.Proofs.YtjpopmgnhgancaaDoor
open Go.RowKit Go.Lib
set_option maxRecDepth 100000
def KrI (w0 : World) (ad : Addr) (gt gk go sb ni ci j ki ko oi oo to : Nat) (xm xk xn xc : Int) (xs kn on tn : ByteArray) (xb r : Bool) (ti : Nat) (c0 c2 c3 c4 c6 c8 c9 c10 c14 c15 c16 c17 c18 c19 c20 c21 c22 c23 c24 c25 c26 c27 c28 c29 c30 c31 c32 c33 c34 c35 c36 c37 c38 c39 c40 c41 c42 c43 c44 c45 c46 c47 c48 c49 c50 c51 c52 c89 c90 c91 c92 c93 c94 c95 c96 : Value) (listed : Array Bool) (A : Act) (w : World) : Prop := ∃ (s53 s54 s55 s56 s57 s58 s59 s60 s61 s62 s63 s64 s65 s66 s67 s68 s69 s70 s71 s72 s73 s74 s75 s76 s77 s78 s79 s80 s81 s82 s83 s84 s85 s86 s87 s88 : Value), A = { tmps := #[c0, .slice (some ad) ni ci, c2, c3, c4, .pointer (some ⟨gt, 0, none⟩), c6, .pointer (some ⟨sb, 0, none⟩), c8, c9, c10, .int .i64 (j : Nat), .pointer (some ⟨gk, 0, none⟩), .pointer (some ⟨go, 0, none⟩), c14, c15, c16, c17, c18, c19, c20, c21, c22, c23, c24, c25, c26, c27, c28, c29, c30, c31, c32, c33, c34, c35, c36, c37, c38, c39, c40, c41, c42, c43, c44, c45, c46, c47, c48, c49, c50, c51, c52, s53, s54, s55, s56, s57, s58, s59, s60, s61, s62, s63, s64, s65, s66, s67, s68, s69, s70, s71, s72, s73, s74, s75, s76, s77, s78, s79, s80, s81, s82, s83, s84, s85, s86, s87, s88, c89, c90, c91, c92, c93, c94, c95, c96], defers := [] } ∧
  (listed.getD 0 false = true → s53 = .pointer (some ⟨sb, 0, none⟩)) ∧
  (listed.getD 1 false = true → s54 = .slice (some ad) ni ci) ∧
  (listed.getD 2 false = true → s55 = .int .i64 (j : Nat)) ∧
  (listed.getD 3 false = true → s56 = .pointer (some (ad.add (j * 6)))) ∧
  (listed.getD 4 false = true → s57 = .agg #[.int .i64 xm, .int .i64 xk, .int .i64 xn, .int .i64 xc, .string xs, .bool xb]) ∧
  (listed.getD 5 false = true → s58 = .agg #[.int .i64 (ki : Nat), .string kn, .int .i64 (ko : Nat)]) ∧
  (listed.getD 6 false = true → s59 = .bool true) ∧
  (listed.getD 7 false = true → s60 = .bool false) ∧
  (listed.getD 8 false = true → s61 = .bool false) ∧
  (listed.getD 9 false = true → s62 = .pointer (some ⟨sb, 0, none⟩)) ∧
  (listed.getD 10 false = true → s63 = .slice (some ad) ni ci) ∧
  (listed.getD 11 false = true → s64 = .int .i64 (j : Nat)) ∧
  (listed.getD 12 false = true → s65 = .pointer (some (ad.add (j * 6)))) ∧
  (listed.getD 13 false = true → s66 = .agg #[.int .i64 xm, .int .i64 xk, .int .i64 xn, .int .i64 xc, .string xs, .bool xb]) ∧
  (listed.getD 14 false = true → s67 = .agg #[.int .i64 13, .string ⟨#[]⟩, .int .i64 0]) ∧
  (listed.getD 15 false = true → s68 = .bool true) ∧
  (listed.getD 16 false = true → s69 = .bool false) ∧
  (listed.getD 17 false = true → s70 = .bool false) ∧
  (listed.getD 18 false = true → s71 = .bool false) ∧
  (listed.getD 19 false = true → s72 = .pointer (some ⟨gt, 0, none⟩)) ∧
  (listed.getD 20 false = true → s73 = .int .i64 (ti : Nat)) ∧
  (listed.getD 21 false = true → s74 = .bool true) ∧
  (listed.getD 22 false = true → s75 = .bool true) ∧
  (listed.getD 23 false = true → s76 = .pointer (some ⟨sb, 0, none⟩)) ∧
  (listed.getD 24 false = true → s77 = .slice (some ad) ni ci) ∧
  (listed.getD 25 false = true → s78 = .int .i64 (j : Nat)) ∧
  (listed.getD 26 false = true → s79 = .pointer (some (ad.add (j * 6)))) ∧
  (listed.getD 27 false = true → s80 = .agg #[.int .i64 xm, .int .i64 xk, .int .i64 xn, .int .i64 xc, .string xs, .bool xb]) ∧
  (listed.getD 28 false = true → s81 = .agg #[.int .i64 (ti : Nat), .string tn, .int .i64 (to : Nat)]) ∧
  (listed.getD 29 false = true → s82 = .bool r) ∧
  (listed.getD 30 false = true → s83 = .agg #[.int .i64 (ki : Nat), .string kn, .int .i64 (ko : Nat)]) ∧
  (listed.getD 31 false = true → s84 = .agg #[.int .i64 (oi : Nat), .string on, .int .i64 (oo : Nat)]) ∧
  (listed.getD 32 false = true → s85 = .bool r) ∧
  (listed.getD 33 false = true → s86 = .bool false) ∧
  (listed.getD 34 false = true → s87 = .bool false) ∧
  (listed.getD 35 false = true → s88 = .bool false) ∧
  Below w0.heap.size w0 w ∧
  w.cell? ⟨gt, 0, none⟩ = some (.int .i64 (ti : Nat)) ∧
  w.cell? ⟨gt, 1, none⟩ = some (.string tn) ∧
  w.cell? ⟨gt, 2, none⟩ = some (.int .i64 (to : Nat)) ∧
  w.cell? ⟨gk, 0, none⟩ = some (.int .i64 (ki : Nat)) ∧
  w.cell? ⟨gk, 1, none⟩ = some (.string kn) ∧
  w.cell? ⟨gk, 2, none⟩ = some (.int .i64 (ko : Nat)) ∧
  w.cell? ⟨go, 0, none⟩ = some (.int .i64 (oi : Nat)) ∧
  w.cell? ⟨go, 1, none⟩ = some (.string on) ∧
  w.cell? ⟨go, 2, none⟩ = some (.int .i64 (oo : Nat))
set_option maxRecDepth 100000 in
set_option maxHeartbeats 16000000 in
theorem Kr_region (ad : Addr) (gt gk go sb ni ci j ki ko oi oo to : Nat) (xm xk xn xc : Int) (xs kn on tn : ByteArray) (xb r : Bool) (ti : Nat) {x53 x54 x55 x56 x57 x58 x59 x60 x61 x62 x63 x64 x65 x66 x67 x68 x69 x70 x71 x72 x73 x74 x75 x76 x77 x78 x79 x80 x81 x82 x83 x84 x85 x86 x87 x88 : Value} {c0 c2 c3 c4 c6 c8 c9 c10 c14 c15 c16 c17 c18 c19 c20 c21 c22 c23 c24 c25 c26 c27 c28 c29 c30 c31 c32 c33 c34 c35 c36 c37 c38 c39 c40 c41 c42 c43 c44 c45 c46 c47 c48 c49 c50 c51 c52 c89 c90 c91 c92 c93 c94 c95 c96 : Value} (w0 : World) {W : World} {Q : Exit → Act → World → Prop} (hb0 : Below w0.heap.size w0 W) (C0 : W.cell? ⟨gt, 0, none⟩ = some (.int .i64 (ti : Nat))) (C1 : W.cell? ⟨gt, 1, none⟩ = some (.string tn)) (C2 : W.cell? ⟨gt, 2, none⟩ = some (.int .i64 (to : Nat))) (C3 : W.cell? ⟨gk, 0, none⟩ = some (.int .i64 (ki : Nat))) (C4 : W.cell? ⟨gk, 1, none⟩ = some (.string kn)) (C5 : W.cell? ⟨gk, 2, none⟩ = some (.int .i64 (ko : Nat))) (C6 : W.cell? ⟨go, 0, none⟩ = some (.int .i64 (oi : Nat))) (C7 : W.cell? ⟨go, 1, none⟩ = some (.string on)) (C8 : W.cell? ⟨go, 2, none⟩ = some (.int .i64 (oo : Nat)))  (X0 : Hid (∀ w1, Below w0.heap.size w0 w1 → w1.cell? (ad.add (j * 6)) = some (.int .i64 xm))) (X1 : Hid (∀ w1, Below w0.heap.size w0 w1 → w1.cell? { block := (ad.add (j * 6)).block, off := (ad.add (j * 6)).off + 1 } = some (.int .i64 xk))) (X2 : Hid (∀ w1, Below w0.heap.size w0 w1 → w1.cell? { block := (ad.add (j * 6)).block, off := (ad.add (j * 6)).off + 2 } = some (.int .i64 xn))) (X3 : Hid (∀ w1, Below w0.heap.size w0 w1 → w1.cell? { block := (ad.add (j * 6)).block, off := (ad.add (j * 6)).off + 3 } = some (.int .i64 xc))) (X4 : Hid (∀ w1, Below w0.heap.size w0 w1 → w1.cell? { block := (ad.add (j * 6)).block, off := (ad.add (j * 6)).off + 4 } = some (.string xs))) (X5 : Hid (∀ w1, Below w0.heap.size w0 w1 → w1.cell? { block := (ad.add (j * 6)).block, off := (ad.add (j * 6)).off + 5 } = some (.bool xb))) (H1 : Hid (∀ w1, Below w0.heap.size w0 w1 → Calls Tryd.prog 17 #[.pointer (some ⟨sb, 0, none⟩), .agg #[.int .i64 xm, .int .i64 xk, .int .i64 xn, .int .i64 xc, .string xs, .bool xb], .agg #[.int .i64 (ki : Nat), .string kn, .int .i64 (ko : Nat)]] w1 fun e w' => e = .returned (.bool true) ∧ Below w1.heap.size w1 w')) (H2 : Hid (∀ w1, Below w0.heap.size w0 w1 → Calls Tryd.prog 17 #[.pointer (some ⟨sb, 0, none⟩), .agg #[.int .i64 xm, .int .i64 xk, .int .i64 xn, .int .i64 xc, .string xs, .bool xb], .agg #[.int .i64 13, .string ⟨#[]⟩, .int .i64 0]] w1 fun e w' => e = .returned (.bool true) ∧ Below w1.heap.size w1 w')) (hj : j < ni) (_hj' : decide (j < ni) = true) (H3 : Hid (∀ w1, Below w0.heap.size w0 w1 → Calls Tryd.prog 17 #[.pointer (some ⟨sb, 0, none⟩), .agg #[.int .i64 xm, .int .i64 xk, .int .i64 xn, .int .i64 xc, .string xs, .bool xb], .agg #[.int .i64 (ti : Nat), .string tn, .int .i64 (to : Nat)]] w1 fun e w' => e = .returned (.bool r) ∧ Below w1.heap.size w1 w')) (H4 : Hid (∀ w1, Below w0.heap.size w0 w1 → Calls Tryd.prog 22 #[.agg #[.int .i64 (ki : Nat), .string kn, .int .i64 (ko : Nat)], .agg #[.int .i64 (oi : Nat), .string on, .int .i64 (oo : Nat)]] w1 fun e w' => e = .returned (.bool r) ∧ Below w1.heap.size w1 w')) (_ht : ¬ ti = 0) (ht1 : ((ti : Int) != 0) = true) (_ht2 : (ti = 0) = False)
    (hQ : ∀ (w : World) , (True) → Below w0.heap.size w0 w → Q .normal { tmps := #[c0, .slice (some ad) ni ci, c2, c3, c4, .pointer (some ⟨gt, 0, none⟩), c6, .pointer (some ⟨sb, 0, none⟩), c8, c9, c10, .int .i64 (j : Nat), .pointer (some ⟨gk, 0, none⟩), .pointer (some ⟨go, 0, none⟩), c14, c15, c16, c17, c18, c19, c20, c21, c22, c23, c24, c25, c26, c27, c28, c29, c30, c31, c32, c33, c34, c35, c36, c37, c38, c39, c40, c41, c42, c43, c44, c45, c46, c47, c48, c49, c50, c51, c52, .pointer (some ⟨sb, 0, none⟩), .slice (some ad) ni ci, .int .i64 (j : Nat), .pointer (some (ad.add (j * 6))), .agg #[.int .i64 xm, .int .i64 xk, .int .i64 xn, .int .i64 xc, .string xs, .bool xb], .agg #[.int .i64 (ki : Nat), .string kn, .int .i64 (ko : Nat)], .bool true, .bool false, .bool false, .pointer (some ⟨sb, 0, none⟩), .slice (some ad) ni ci, .int .i64 (j : Nat), .pointer (some (ad.add (j * 6))), .agg #[.int .i64 xm, .int .i64 xk, .int .i64 xn, .int .i64 xc, .string xs, .bool xb], .agg #[.int .i64 13, .string ⟨#[]⟩, .int .i64 0], .bool true, .bool false, .bool false, .bool false, .pointer (some ⟨gt, 0, none⟩), .int .i64 (ti : Nat), .bool true, .bool true, .pointer (some ⟨sb, 0, none⟩), .slice (some ad) ni ci, .int .i64 (j : Nat), .pointer (some (ad.add (j * 6))), .agg #[.int .i64 xm, .int .i64 xk, .int .i64 xn, .int .i64 xc, .string xs, .bool xb], .agg #[.int .i64 (ti : Nat), .string tn, .int .i64 (to : Nat)], .bool r, .agg #[.int .i64 (ki : Nat), .string kn, .int .i64 (ko : Nat)], .agg #[.int .i64 (oi : Nat), .string on, .int .i64 (oo : Nat)], .bool r, .bool false, .bool false, .bool false, c89, c90, c91, c92, c93, c94, c95, c96], defers := [] } w) :
    Code.wp Tryd.prog ((Tryd.f7.body.bind (regionOf 15)).getD .skip) Q { tmps := #[c0, .slice (some ad) ni ci, c2, c3, c4, .pointer (some ⟨gt, 0, none⟩), c6, .pointer (some ⟨sb, 0, none⟩), c8, c9, c10, .int .i64 (j : Nat), .pointer (some ⟨gk, 0, none⟩), .pointer (some ⟨go, 0, none⟩), c14, c15, c16, c17, c18, c19, c20, c21, c22, c23, c24, c25, c26, c27, c28, c29, c30, c31, c32, c33, c34, c35, c36, c37, c38, c39, c40, c41, c42, c43, c44, c45, c46, c47, c48, c49, c50, c51, c52, x53, x54, x55, x56, x57, x58, x59, x60, x61, x62, x63, x64, x65, x66, x67, x68, x69, x70, x71, x72, x73, x74, x75, x76, x77, x78, x79, x80, x81, x82, x83, x84, x85, x86, x87, x88, c89, c90, c91, c92, c93, c94, c95, c96], defers := [] } W := by
  conv => arg 2; whnf
  refine wp_region_inv (by kernel_rfl) (by kernel_rfl) (KrI w0 ad gt gk go sb ni ci j ki ko oi oo to xm xk xn xc xs kn on tn xb r ti c0 c2 c3 c4 c6 c8 c9 c10 c14 c15 c16 c17 c18 c19 c20 c21 c22 c23 c24 c25 c26 c27 c28 c29 c30 c31 c32 c33 c34 c35 c36 c37 c38 c39 c40 c41 c42 c43 c44 c45 c46 c47 c48 c49 c50 c51 c52 c89 c90 c91 c92 c93 c94 c95 c96) ?_ ?_ ?_
  · exact ⟨_, _, _, _, _, _, _, _, _, _, _, _, _, _, _, _, _, _, _, _, _, _, _, _, _, _, _, _, _, _, _, _, _, _, _, _, rfl, fun h => absurd h l0, fun h => absurd h l0, fun h => absurd h l0, fun h => absurd h l0, fun h => absurd h l0, fun h => absurd h l0, fun h => absurd h l0, fun h => absurd h l0, fun h => absurd h l0, fun h => absurd h l0, fun h => absurd h l0, fun h => absurd h l0, fun h => absurd h l0, fun h => absurd h l0, fun h => absurd h l0, fun h => absurd h l0, fun h => absurd h l0, fun h => absurd h l0, fun h => absurd h l0, fun h => absurd h l0, fun h => absurd h l0, fun h => absurd h l0, fun h => absurd h l0, fun h => absurd h l0, fun h => absurd h l0, fun h => absurd h l0, fun h => absurd h l0, fun h => absurd h l0, fun h => absurd h l0, fun h => absurd h l0, fun h => absurd h l0, fun h => absurd h l0, fun h => absurd h l0, fun h => absurd h l0, fun h => absurd h l0, fun h => absurd h l0, bdr hb0, C0, C1, C2, C3, C4, C5, C6, C7, C8⟩
  · intro i o listed A w hi ho hd hn hI
    unfold KrI at hI
    obtain ⟨s53, hI⟩ := hI
    obtain ⟨s54, hI⟩ := hI
    obtain ⟨s55, hI⟩ := hI
    obtain ⟨s56, hI⟩ := hI
    obtain ⟨s57, hI⟩ := hI
    obtain ⟨s58, hI⟩ := hI
    obtain ⟨s59, hI⟩ := hI
    obtain ⟨s60, hI⟩ := hI
    obtain ⟨s61, hI⟩ := hI
    obtain ⟨s62, hI⟩ := hI
    obtain ⟨s63, hI⟩ := hI
    obtain ⟨s64, hI⟩ := hI
    obtain ⟨s65, hI⟩ := hI
    obtain ⟨s66, hI⟩ := hI
    obtain ⟨s67, hI⟩ := hI
    obtain ⟨s68, hI⟩ := hI
    obtain ⟨s69, hI⟩ := hI
    obtain ⟨s70, hI⟩ := hI
    obtain ⟨s71, hI⟩ := hI
    obtain ⟨s72, hI⟩ := hI
    obtain ⟨s73, hI⟩ := hI
    obtain ⟨s74, hI⟩ := hI
    obtain ⟨s75, hI⟩ := hI
    obtain ⟨s76, hI⟩ := hI
    obtain ⟨s77, hI⟩ := hI
    obtain ⟨s78, hI⟩ := hI
    obtain ⟨s79, hI⟩ := hI
    obtain ⟨s80, hI⟩ := hI
    obtain ⟨s81, hI⟩ := hI
    obtain ⟨s82, hI⟩ := hI
    obtain ⟨s83, hI⟩ := hI
    obtain ⟨s84, hI⟩ := hI
    obtain ⟨s85, hI⟩ := hI
    obtain ⟨s86, hI⟩ := hI
    obtain ⟨s87, hI⟩ := hI
    obtain ⟨s88, hI⟩ := hI
    obtain ⟨rfl, hI⟩ := hI
    obtain ⟨F0, hI⟩ := hI
    obtain ⟨F1, hI⟩ := hI
    obtain ⟨F2, hI⟩ := hI
    obtain ⟨F3, hI⟩ := hI
    obtain ⟨F4, hI⟩ := hI
    obtain ⟨F5, hI⟩ := hI
    obtain ⟨F6, hI⟩ := hI
    obtain ⟨F7, hI⟩ := hI
    obtain ⟨F8, hI⟩ := hI
    obtain ⟨F9, hI⟩ := hI
    obtain ⟨F10, hI⟩ := hI
    obtain ⟨F11, hI⟩ := hI
    obtain ⟨F12, hI⟩ := hI
    obtain ⟨F13, hI⟩ := hI
    obtain ⟨F14, hI⟩ := hI
    obtain ⟨F15, hI⟩ := hI
    obtain ⟨F16, hI⟩ := hI
    obtain ⟨F17, hI⟩ := hI
    obtain ⟨F18, hI⟩ := hI
    obtain ⟨F19, hI⟩ := hI
    obtain ⟨F20, hI⟩ := hI
    obtain ⟨F21, hI⟩ := hI
    obtain ⟨F22, hI⟩ := hI
    obtain ⟨F23, hI⟩ := hI
    obtain ⟨F24, hI⟩ := hI
    obtain ⟨F25, hI⟩ := hI
    obtain ⟨F26, hI⟩ := hI
    obtain ⟨F27, hI⟩ := hI
    obtain ⟨F28, hI⟩ := hI
    obtain ⟨F29, hI⟩ := hI
    obtain ⟨F30, hI⟩ := hI
    obtain ⟨F31, hI⟩ := hI
    obtain ⟨F32, hI⟩ := hI
    obtain ⟨F33, hI⟩ := hI
    obtain ⟨F34, hI⟩ := hI
    obtain ⟨F35, hI⟩ := hI
    obtain ⟨F36, hI⟩ := hI
    obtain ⟨F37, hI⟩ := hI
    obtain ⟨F38, hI⟩ := hI
    obtain ⟨F39, hI⟩ := hI
    obtain ⟨F40, hI⟩ := hI
    obtain ⟨F41, hI⟩ := hI
    obtain ⟨F42, hI⟩ := hI
    obtain ⟨F43, hI⟩ := hI
    obtain ⟨F44, hI⟩ := hI
    have F45 := hI; clear hI
    have hi' : i < 36 := hi
    clear hi
    rcases (by omega : i = 0 ∨ i = 1 ∨ i = 2 ∨ i = 3 ∨ i = 4 ∨ i = 5 ∨ i = 6 ∨ i = 7 ∨ i = 8 ∨ i = 9 ∨ i = 10 ∨ i = 11 ∨ i = 12 ∨ i = 13 ∨ i = 14 ∨ i = 15 ∨ i = 16 ∨ i = 17 ∨ i = 18 ∨ i = 19 ∨ i = 20 ∨ i = 21 ∨ i = 22 ∨ i = 23 ∨ i = 24 ∨ i = 25 ∨ i = 26 ∨ i = 27 ∨ i = 28 ∨ i = 29 ∨ i = 30 ∨ i = 31 ∨ i = 32 ∨ i = 33 ∨ i = 34 ∨ i = 35) with rfl | rfl | rfl | rfl | rfl | rfl | rfl | rfl | rfl | rfl | rfl | rfl | rfl | rfl | rfl | rfl | rfl | rfl | rfl | rfl | rfl | rfl | rfl | rfl | rfl | rfl | rfl | rfl | rfl | rfl | rfl | rfl | rfl | rfl | rfl | rfl
    · simp only [List.getElem?_toArray, List.getElem?_cons_zero, Option.some.injEq] at ho
      subst ho
      refine wpOp_step rfl (fun K hK => ?_)
      go_simp
      refine hK _ _ ?_
      exact ⟨_, _, _, _, _, _, _, _, _, _, _, _, _, _, _, _, _, _, _, _, _, _, _, _, _, _, _, _, _, _, _, _, _, _, _, _, rfl, fun _ => rfl, lk F1, lk F2, lk F3, lk F4, lk F5, lk F6, lk F7, lk F8, lk F9, lk F10, lk F11, lk F12, lk F13, lk F14, lk F15, lk F16, lk F17, lk F18, lk F19, lk F20, lk F21, lk F22, lk F23, lk F24, lk F25, lk F26, lk F27, lk F28, lk F29, lk F30, lk F31, lk F32, lk F33, lk F34, lk F35, F36, F37, F38, F39, F40, F41, F42, F43, F44, F45⟩
    · simp only [List.getElem?_toArray, List.getElem?_cons_zero, List.getElem?_cons_succ, Option.some.injEq] at ho
      subst ho
      refine wpOp_step rfl (fun K hK => ?_)
      go_simp
      refine hK _ _ ?_
      exact ⟨_, _, _, _, _, _, _, _, _, _, _, _, _, _, _, _, _, _, _, _, _, _, _, _, _, _, _, _, _, _, _, _, _, _, _, _, rfl, lk F0, fun _ => rfl, lk F2, lk F3, lk F4, lk F5, lk F6, lk F7, lk F8, lk F9, lk F10, lk F11, lk F12, lk F13, lk F14, lk F15, lk F16, lk F17, lk F18, lk F19, lk F20, lk F21, lk F22, lk F23, lk F24, lk F25, lk F26, lk F27, lk F28, lk F29, lk F30, lk F31, lk F32, lk F33, lk F34, lk F35, F36, F37, F38, F39, F40, F41, F42, F43, F44, F45⟩
    · simp only [List.getElem?_toArray, List.getElem?_cons_zero, List.getElem?_cons_succ, Option.some.injEq] at ho
      subst ho
      refine wpOp_step rfl (fun K hK => ?_)
      go_simp
      refine hK _ _ ?_
      exact ⟨_, _, _, _, _, _, _, _, _, _, _, _, _, _, _, _, _, _, _, _, _, _, _, _, _, _, _, _, _, _, _, _, _, _, _, _, rfl, lk F0, lk F1, fun _ => rfl, lk F3, lk F4, lk F5, lk F6, lk F7, lk F8, lk F9, lk F10, lk F11, lk F12, lk F13, lk F14, lk F15, lk F16, lk F17, lk F18, lk F19, lk F20, lk F21, lk F22, lk F23, lk F24, lk F25, lk F26, lk F27, lk F28, lk F29, lk F30, lk F31, lk F32, lk F33, lk F34, lk F35, F36, F37, F38, F39, F40, F41, F42, F43, F44, F45⟩
    · simp only [List.getElem?_toArray, List.getElem?_cons_zero, List.getElem?_cons_succ, Option.some.injEq] at ho
      subst ho
      obtain rfl := F1 (hd ⟨1, .data⟩ (by simp) rfl)
      obtain rfl := F2 (hd ⟨2, .data⟩ (by simp) rfl)
      refine wpOp_step rfl (fun K hK => ?_)
      go_simp
      refine hK _ _ ?_
      exact ⟨_, _, _, _, _, _, _, _, _, _, _, _, _, _, _, _, _, _, _, _, _, _, _, _, _, _, _, _, _, _, _, _, _, _, _, _, rfl, lk F0, lk F1, lk F2, fun _ => rfl, lk F4, lk F5, lk F6, lk F7, lk F8, lk F9, lk F10, lk F11, lk F12, lk F13, lk F14, lk F15, lk F16, lk F17, lk F18, lk F19, lk F20, lk F21, lk F22, lk F23, lk F24, lk F25, lk F26, lk F27, lk F28, lk F29, lk F30, lk F31, lk F32, lk F33, lk F34, lk F35, F36, F37, F38, F39, F40, F41, F42, F43, F44, F45⟩
    · simp only [List.getElem?_toArray, List.getElem?_cons_zero, List.getElem?_cons_succ, Option.some.injEq] at ho
      subst ho
      obtain rfl := F3 (hd ⟨3, .data⟩ (by simp) rfl)
      have h0 := X0.out _ F36; have h1 := X1.out _ F36; have h2 := X2.out _ F36; have h3 := X3.out _ F36; have h4 := X4.out _ F36; have h5 := X5.out _ F36
      refine wpOp_step rfl (fun K hK => ?_)
      go_simp
      refine hK _ _ ?_
      exact ⟨_, _, _, _, _, _, _, _, _, _, _, _, _, _, _, _, _, _, _, _, _, _, _, _, _, _, _, _, _, _, _, _, _, _, _, _, rfl, lk F0, lk F1, lk F2, lk F3, fun _ => rfl, lk F5, lk F6, lk F7, lk F8, lk F9, lk F10, lk F11, lk F12, lk F13, lk F14, lk F15, lk F16, lk F17, lk F18, lk F19, lk F20, lk F21, lk F22, lk F23, lk F24, lk F25, lk F26, lk F27, lk F28, lk F29, lk F30, lk F31, lk F32, lk F33, lk F34, lk F35, F36, F37, F38, F39, F40, F41, F42, F43, F44, F45⟩
    · simp only [List.getElem?_toArray, List.getElem?_cons_zero, List.getElem?_cons_succ, Option.some.injEq] at ho
      subst ho
      have h0 := F40; have h1 := F41; have h2 := F42
      refine wpOp_step rfl (fun K hK => ?_)
      go_simp
      refine hK _ _ ?_
      exact ⟨_, _, _, _, _, _, _, _, _, _, _, _, _, _, _, _, _, _, _, _, _, _, _, _, _, _, _, _, _, _, _, _, _, _, _, _, rfl, lk F0, lk F1, lk F2, lk F3, lk F4, fun _ => rfl, lk F6, lk F7, lk F8, lk F9, lk F10, lk F11, lk F12, lk F13, lk F14, lk F15, lk F16, lk F17, lk F18, lk F19, lk F20, lk F21, lk F22, lk F23, lk F24, lk F25, lk F26, lk F27, lk F28, lk F29, lk F30, lk F31, lk F32, lk F33, lk F34, lk F35, F36, F37, F38, F39, F40, F41, F42, F43, F44, F45⟩
    · simp only [List.getElem?_toArray, List.getElem?_cons_zero, List.getElem?_cons_succ, Option.some.injEq] at ho
      subst ho
      obtain rfl := F0 (hd ⟨0, .data⟩ (by simp) rfl)
      obtain rfl := F4 (hd ⟨4, .data⟩ (by simp) rfl)
      obtain rfl := F5 (hd ⟨5, .data⟩ (by simp) rfl)
      refine wpOp_step rfl (fun K hK => ?_)
      go_simp
      go_at_call 17
      refine (H1.out _ F36).mono ?_
      rintro e w' ⟨rfl, hb⟩
      refine hK _ _ ?_
      exact ⟨_, _, _, _, _, _, _, _, _, _, _, _, _, _, _, _, _, _, _, _, _, _, _, _, _, _, _, _, _, _, _, _, _, _, _, _, rfl, lk F0, lk F1, lk F2, lk F3, lk F4, lk F5, fun _ => rfl, lk F7, lk F8, lk F9, lk F10, lk F11, lk F12, lk F13, lk F14, lk F15, lk F16, lk F17, lk F18, lk F19, lk F20, lk F21, lk F22, lk F23, lk F24, lk F25, lk F26, lk F27, lk F28, lk F29, lk F30, lk F31, lk F32, lk F33, lk F34, lk F35, bt F36 hb, cell_call F37 hb, cell_call F38 hb, cell_call F39 hb, cell_call F40 hb, cell_call F41 hb, cell_call F42 hb, cell_call F43 hb, cell_call F44 hb, cell_call F45 hb⟩
    · simp only [List.getElem?_toArray, List.getElem?_cons_zero, List.getElem?_cons_succ, Option.some.injEq] at ho
      subst ho
      obtain rfl := F6 (hd ⟨6, .data⟩ (by simp) rfl)
      refine wpOp_step rfl (fun K hK => ?_)
      go_simp
      refine hK _ _ ?_
      exact ⟨_, _, _, _, _, _, _, _, _, _, _, _, _, _, _, _, _, _, _, _, _, _, _, _, _, _, _, _, _, _, _, _, _, _, _, _, rfl, lk F0, lk F1, lk F2, lk F3, lk F4, lk F5, lk F6, fun _ => rfl, lk F8, lk F9, lk F10, lk F11, lk F12, lk F13, lk F14, lk F15, lk F16, lk F17, lk F18, lk F19, lk F20, lk F21, lk F22, lk F23, lk F24, lk F25, lk F26, lk F27, lk F28, lk F29, lk F30, lk F31, lk F32, lk F33, lk F34, lk F35, F36, F37, F38, F39, F40, F41, F42, F43, F44, F45⟩
    · simp only [List.getElem?_toArray, List.getElem?_cons_zero, List.getElem?_cons_succ, Option.some.injEq] at ho
      subst ho
      obtain rfl := F7 (hd ⟨7, .data⟩ (by simp) rfl)
      refine wpOp_step rfl (fun K hK => ?_)
      go_simp
      refine hK _ _ ?_
      exact ⟨_, _, _, _, _, _, _, _, _, _, _, _, _, _, _, _, _, _, _, _, _, _, _, _, _, _, _, _, _, _, _, _, _, _, _, _, rfl, lk F0, lk F1, lk F2, lk F3, lk F4, lk F5, lk F6, lk F7, fun _ => rfl, lk F9, lk F10, lk F11, lk F12, lk F13, lk F14, lk F15, lk F16, lk F17, lk F18, lk F19, lk F20, lk F21, lk F22, lk F23, lk F24, lk F25, lk F26, lk F27, lk F28, lk F29, lk F30, lk F31, lk F32, lk F33, lk F34, lk F35, F36, F37, F38, F39, F40, F41, F42, F43, F44, F45⟩
    · simp only [List.getElem?_toArray, List.getElem?_cons_zero, List.getElem?_cons_succ, Option.some.injEq] at ho
      subst ho
      obtain rfl := F8 (hd ⟨8, .guard⟩ (by simp) rfl)
      refine wpOp_step rfl (fun K hK => ?_)
      go_simp
      refine hK _ _ ?_
      exact ⟨_, _, _, _, _, _, _, _, _, _, _, _, _, _, _, _, _, _, _, _, _, _, _, _, _, _, _, _, _, _, _, _, _, _, _, _, rfl, lk F0, lk F1, lk F2, lk F3, lk F4, lk F5, lk F6, lk F7, lk F8, fun _ => rfl, lk F10, lk F11, lk F12, lk F13, lk F14, lk F15, lk F16, lk F17, lk F18, lk F19, lk F20, lk F21, lk F22, lk F23, lk F24, lk F25, lk F26, lk F27, lk F28, lk F29, lk F30, lk F31, lk F32, lk F33, lk F34, lk F35, F36, F37, F38, F39, F40, F41, F42, F43, F44, F45⟩
    · simp only [List.getElem?_toArray, List.getElem?_cons_zero, List.getElem?_cons_succ, Option.some.injEq] at ho
      subst ho
      obtain rfl := F8 (hd ⟨8, .guard⟩ (by simp) rfl)
      refine wpOp_step rfl (fun K hK => ?_)
      go_simp
      refine hK _ _ ?_
      exact ⟨_, _, _, _, _, _, _, _, _, _, _, _, _, _, _, _, _, _, _, _, _, _, _, _, _, _, _, _, _, _, _, _, _, _, _, _, rfl, lk F0, lk F1, lk F2, lk F3, lk F4, lk F5, lk F6, lk F7, lk F8, lk F9, fun _ => rfl, lk F11, lk F12, lk F13, lk F14, lk F15, lk F16, lk F17, lk F18, lk F19, lk F20, lk F21, lk F22, lk F23, lk F24, lk F25, lk F26, lk F27, lk F28, lk F29, lk F30, lk F31, lk F32, lk F33, lk F34, lk F35, F36, F37, F38, F39, F40, F41, F42, F43, F44, F45⟩
    · simp only [List.getElem?_toArray, List.getElem?_cons_zero, List.getElem?_cons_succ, Option.some.injEq] at ho
      subst ho
      obtain rfl := F8 (hd ⟨8, .guard⟩ (by simp) rfl)
      refine wpOp_step rfl (fun K hK => ?_)
      go_simp
      refine hK _ _ ?_
      exact ⟨_, _, _, _, _, _, _, _, _, _, _, _, _, _, _, _, _, _, _, _, _, _, _, _, _, _, _, _, _, _, _, _, _, _, _, _, rfl, lk F0, lk F1, lk F2, lk F3, lk F4, lk F5, lk F6, lk F7, lk F8, lk F9, lk F10, fun _ => rfl, lk F12, lk F13, lk F14, lk F15, lk F16, lk F17, lk F18, lk F19, lk F20, lk F21, lk F22, lk F23, lk F24, lk F25, lk F26, lk F27, lk F28, lk F29, lk F30, lk F31, lk F32, lk F33, lk F34, lk F35, F36, F37, F38, F39, F40, F41, F42, F43, F44, F45⟩
    · simp only [List.getElem?_toArray, List.getElem?_cons_zero, List.getElem?_cons_succ, Option.some.injEq] at ho
      subst ho
      obtain rfl := F10 (hd ⟨10, .data⟩ (by simp) rfl)
      obtain rfl := F11 (hd ⟨11, .data⟩ (by simp) rfl)
      obtain rfl := F8 (hd ⟨8, .guard⟩ (by simp) rfl)
      refine wpOp_step rfl (fun K hK => ?_)
      go_simp
      refine hK _ _ ?_
      exact ⟨_, _, _, _, _, _, _, _, _, _, _, _, _, _, _, _, _, _, _, _, _, _, _, _, _, _, _, _, _, _, _, _, _, _, _, _, rfl, lk F0, lk F1, lk F2, lk F3, lk F4, lk F5, lk F6, lk F7, lk F8, lk F9, lk F10, lk F11, fun _ => rfl, lk F13, lk F14, lk F15, lk F16, lk F17, lk F18, lk F19, lk F20, lk F21, lk F22, lk F23, lk F24, lk F25, lk F26, lk F27, lk F28, lk F29, lk F30, lk F31, lk F32, lk F33, lk F34, lk F35, F36, F37, F38, F39, F40, F41, F42, F43, F44, F45⟩
    · simp only [List.getElem?_toArray, List.getElem?_cons_zero, List.getElem?_cons_succ, Option.some.injEq] at ho
      subst ho
      obtain rfl := F12 (hd ⟨12, .data⟩ (by simp) rfl)
      obtain rfl := F8 (hd ⟨8, .guard⟩ (by simp) rfl)
      have h0 := X0.out _ F36; have h1 := X1.out _ F36; have h2 := X2.out _ F36; have h3 := X3.out _ F36; have h4 := X4.out _ F36; have h5 := X5.out _ F36
      refine wpOp_step rfl (fun K hK => ?_)
      go_simp
      refine hK _ _ ?_
      exact ⟨_, _, _, _, _, _, _, _, _, _, _, _, _, _, _, _, _, _, _, _, _, _, _, _, _, _, _, _, _, _, _, _, _, _, _, _, rfl, lk F0, lk F1, lk F2, lk F3, lk F4, lk F5, lk F6, lk F7, lk F8, lk F9, lk F10, lk F11, lk F12, fun _ => rfl, lk F14, lk F15, lk F16, lk F17, lk F18, lk F19, lk F20, lk F21, lk F22, lk F23, lk F24, lk F25, lk F26, lk F27, lk F28, lk F29, lk F30, lk F31, lk F32, lk F33, lk F34, lk F35, F36, F37, F38, F39, F40, F41, F42, F43, F44, F45⟩
    · simp only [List.getElem?_toArray, List.getElem?_cons_zero, List.getElem?_cons_succ, Option.some.injEq] at ho
      subst ho
      obtain rfl := F8 (hd ⟨8, .guard⟩ (by simp) rfl)
      refine wpOp_step rfl (fun K hK => ?_)
      go_simp
      refine hK _ _ ?_
      exact ⟨_, _, _, _, _, _, _, _, _, _, _, _, _, _, _, _, _, _, _, _, _, _, _, _, _, _, _, _, _, _, _, _, _, _, _, _, rfl, lk F0, lk F1, lk F2, lk F3, lk F4, lk F5, lk F6, lk F7, lk F8, lk F9, lk F10, lk F11, lk F12, lk F13, fun _ => rfl, lk F15, lk F16, lk F17, lk F18, lk F19, lk F20, lk F21, lk F22, lk F23, lk F24, lk F25, lk F26, lk F27, lk F28, lk F29, lk F30, lk F31, lk F32, lk F33, lk F34, lk F35, F36, F37, F38, F39, F40, F41, F42, F43, F44, F45⟩
    · simp only [List.getElem?_toArray, List.getElem?_cons_zero, List.getElem?_cons_succ, Option.some.injEq] at ho
      subst ho
      obtain rfl := F9 (hd ⟨9, .data⟩ (by simp) rfl)
      obtain rfl := F13 (hd ⟨13, .data⟩ (by simp) rfl)
      obtain rfl := F14 (hd ⟨14, .data⟩ (by simp) rfl)
      obtain rfl := F8 (hd ⟨8, .guard⟩ (by simp) rfl)
      refine wpOp_step rfl (fun K hK => ?_)
      go_simp
      go_at_call 17
      refine (H2.out _ F36).mono ?_
      rintro e w' ⟨rfl, hb⟩
      refine hK _ _ ?_
      exact ⟨_, _, _, _, _, _, _, _, _, _, _, _, _, _, _, _, _, _, _, _, _, _, _, _, _, _, _, _, _, _, _, _, _, _, _, _, rfl, lk F0, lk F1, lk F2, lk F3, lk F4, lk F5, lk F6, lk F7, lk F8, lk F9, lk F10, lk F11, lk F12, lk F13, lk F14, fun _ => rfl, lk F16, lk F17, lk F18, lk F19, lk F20, lk F21, lk F22, lk F23, lk F24, lk F25, lk F26, lk F27, lk F28, lk F29, lk F30, lk F31, lk F32, lk F33, lk F34, lk F35, bt F36 hb, cell_call F37 hb, cell_call F38 hb, cell_call F39 hb, cell_call F40 hb, cell_call F41 hb, cell_call F42 hb, cell_call F43 hb, cell_call F44 hb, cell_call F45 hb⟩
    · simp only [List.getElem?_toArray, List.getElem?_cons_zero, List.getElem?_cons_succ, Option.some.injEq] at ho
      subst ho
      obtain rfl := F15 (hd ⟨15, .data⟩ (by simp) rfl)
      obtain rfl := F8 (hd ⟨8, .guard⟩ (by simp) rfl)
      refine wpOp_step rfl (fun K hK => ?_)
      go_simp
      refine hK _ _ ?_
      exact ⟨_, _, _, _, _, _, _, _, _, _, _, _, _, _, _, _, _, _, _, _, _, _, _, _, _, _, _, _, _, _, _, _, _, _, _, _, rfl, lk F0, lk F1, lk F2, lk F3, lk F4, lk F5, lk F6, lk F7, lk F8, lk F9, lk F10, lk F11, lk F12, lk F13, lk F14, lk F15, fun _ => rfl, lk F17, lk F18, lk F19, lk F20, lk F21, lk F22, lk F23, lk F24, lk F25, lk F26, lk F27, lk F28, lk F29, lk F30, lk F31, lk F32, lk F33, lk F34, lk F35, F36, F37, F38, F39, F40, F41, F42, F43, F44, F45⟩
    · simp only [List.getElem?_toArray, List.getElem?_cons_zero, List.getElem?_cons_succ, Option.some.injEq] at ho
      subst ho
      obtain rfl := F8 (hd ⟨8, .data⟩ (by simp) rfl)
      obtain rfl := F16 (hd ⟨16, .data⟩ (by simp) rfl)
      refine wpOp_step rfl (fun K hK => ?_)
      go_simp
      refine hK _ _ ?_
      exact ⟨_, _, _, _, _, _, _, _, _, _, _, _, _, _, _, _, _, _, _, _, _, _, _, _, _, _, _, _, _, _, _, _, _, _, _, _, rfl, lk F0, lk F1, lk F2, lk F3, lk F4, lk F5, lk F6, lk F7, lk F8, lk F9, lk F10, lk F11, lk F12, lk F13, lk F14, lk F15, lk F16, fun _ => rfl, lk F18, lk F19, lk F20, lk F21, lk F22, lk F23, lk F24, lk F25, lk F26, lk F27, lk F28, lk F29, lk F30, lk F31, lk F32, lk F33, lk F34, lk F35, F36, F37, F38, F39, F40, F41, F42, F43, F44, F45⟩
    · simp only [List.getElem?_toArray, List.getElem?_cons_zero, List.getElem?_cons_succ, Option.some.injEq] at ho
      subst ho
      obtain rfl := F17 (hd ⟨17, .data⟩ (by simp) rfl)
      refine wpOp_step rfl (fun K hK => ?_)
      go_simp
      refine hK _ _ ?_
      exact ⟨_, _, _, _, _, _, _, _, _, _, _, _, _, _, _, _, _, _, _, _, _, _, _, _, _, _, _, _, _, _, _, _, _, _, _, _, rfl, lk F0, lk F1, lk F2, lk F3, lk F4, lk F5, lk F6, lk F7, lk F8, lk F9, lk F10, lk F11, lk F12, lk F13, lk F14, lk F15, lk F16, lk F17, fun _ => rfl, lk F19, lk F20, lk F21, lk F22, lk F23, lk F24, lk F25, lk F26, lk F27, lk F28, lk F29, lk F30, lk F31, lk F32, lk F33, lk F34, lk F35, F36, F37, F38, F39, F40, F41, F42, F43, F44, F45⟩
    · simp only [List.getElem?_toArray, List.getElem?_cons_zero, List.getElem?_cons_succ, Option.some.injEq] at ho
      subst ho
      obtain rfl := F18 (hd ⟨18, .guard⟩ (by simp) rfl)
      refine wpOp_step rfl (fun K hK => ?_)
      go_simp
      refine hK _ _ ?_
      exact ⟨_, _, _, _, _, _, _, _, _, _, _, _, _, _, _, _, _, _, _, _, _, _, _, _, _, _, _, _, _, _, _, _, _, _, _, _, rfl, lk F0, lk F1, lk F2, lk F3, lk F4, lk F5, lk F6, lk F7, lk F8, lk F9, lk F10, lk F11, lk F12, lk F13, lk F14, lk F15, lk F16, lk F17, lk F18, fun _ => rfl, lk F20, lk F21, lk F22, lk F23, lk F24, lk F25, lk F26, lk F27, lk F28, lk F29, lk F30, lk F31, lk F32, lk F33, lk F34, lk F35, F36, F37, F38, F39, F40, F41, F42, F43, F44, F45⟩
    · simp only [List.getElem?_toArray, List.getElem?_cons_zero, List.getElem?_cons_succ, Option.some.injEq] at ho
      subst ho
      obtain rfl := F19 (hd ⟨19, .data⟩ (by simp) rfl)
      obtain rfl := F18 (hd ⟨18, .guard⟩ (by simp) rfl)
      have h0 := F37; have h1 := F38; have h2 := F39
      refine wpOp_step rfl (fun K hK => ?_)
      go_simp
      refine hK _ _ ?_
      exact ⟨_, _, _, _, _, _, _, _, _, _, _, _, _, _, _, _, _, _, _, _, _, _, _, _, _, _, _, _, _, _, _, _, _, _, _, _, rfl, lk F0, lk F1, lk F2, lk F3, lk F4, lk F5, lk F6, lk F7, lk F8, lk F9, lk F10, lk F11, lk F12, lk F13, lk F14, lk F15, lk F16, lk F17, lk F18, lk F19, fun _ => rfl, lk F21, lk F22, lk F23, lk F24, lk F25, lk F26, lk F27, lk F28, lk F29, lk F30, lk F31, lk F32, lk F33, lk F34, lk F35, F36, F37, F38, F39, F40, F41, F42, F43, F44, F45⟩
    · simp only [List.getElem?_toArray, List.getElem?_cons_zero, List.getElem?_cons_succ, Option.some.injEq] at ho
      subst ho
      obtain rfl := F20 (hd ⟨20, .data⟩ (by simp) rfl)
      obtain rfl := F18 (hd ⟨18, .guard⟩ (by simp) rfl)
      refine wpOp_step rfl (fun K hK => ?_)
      go_simp
      refine hK _ _ ?_
      exact ⟨_, _, _, _, _, _, _, _, _, _, _, _, _, _, _, _, _, _, _, _, _, _, _, _, _, _, _, _, _, _, _, _, _, _, _, _, rfl, lk F0, lk F1, lk F2, lk F3, lk F4, lk F5, lk F6, lk F7, lk F8, lk F9, lk F10, lk F11, lk F12, lk F13, lk F14, lk F15, lk F16, lk F17, lk F18, lk F19, lk F20, fun _ => rfl, lk F22, lk F23, lk F24, lk F25, lk F26, lk F27, lk F28, lk F29, lk F30, lk F31, lk F32, lk F33, lk F34, lk F35, F36, F37, F38, F39, F40, F41, F42, F43, F44, F45⟩
    · simp only [List.getElem?_toArray, List.getElem?_cons_zero, List.getElem?_cons_succ, Option.some.injEq] at ho
      subst ho
      obtain rfl := F21 (hd ⟨21, .data⟩ (by simp) rfl)
      obtain rfl := F18 (hd ⟨18, .guard⟩ (by simp) rfl)
      refine wpOp_step rfl (fun K hK => ?_)
      go_simp
      refine hK _ _ ?_
      exact ⟨_, _, _, _, _, _, _, _, _, _, _, _, _, _, _, _, _, _, _, _, _, _, _, _, _, _, _, _, _, _, _, _, _, _, _, _, rfl, lk F0, lk F1, lk F2, lk F3, lk F4, lk F5, lk F6, lk F7, lk F8, lk F9, lk F10, lk F11, lk F12, lk F13, lk F14, lk F15, lk F16, lk F17, lk F18, lk F19, lk F20, lk F21, fun _ => rfl, lk F23, lk F24, lk F25, lk F26, lk F27, lk F28, lk F29, lk F30, lk F31, lk F32, lk F33, lk F34, lk F35, F36, F37, F38, F39, F40, F41, F42, F43, F44, F45⟩
    · simp only [List.getElem?_toArray, List.getElem?_cons_zero, List.getElem?_cons_succ, Option.some.injEq] at ho
      subst ho
      obtain rfl := F22 (hd ⟨22, .guard⟩ (by simp) rfl)
      refine wpOp_step rfl (fun K hK => ?_)
      go_simp
      refine hK _ _ ?_
      exact ⟨_, _, _, _, _, _, _, _, _, _, _, _, _, _, _, _, _, _, _, _, _, _, _, _, _, _, _, _, _, _, _, _, _, _, _, _, rfl, lk F0, lk F1, lk F2, lk F3, lk F4, lk F5, lk F6, lk F7, lk F8, lk F9, lk F10, lk F11, lk F12, lk F13, lk F14, lk F15, lk F16, lk F17, lk F18, lk F19, lk F20, lk F21, lk F22, fun _ => rfl, lk F24, lk F25, lk F26, lk F27, lk F28, lk F29, lk F30, lk F31, lk F32, lk F33, lk F34, lk F35, F36, F37, F38, F39, F40, F41, F42, F43, F44, F45⟩
    · simp only [List.getElem?_toArray, List.getElem?_cons_zero, List.getElem?_cons_succ, Option.some.injEq] at ho
      subst ho
      obtain rfl := F22 (hd ⟨22, .guard⟩ (by simp) rfl)
      refine wpOp_step rfl (fun K hK => ?_)
      go_simp
      refine hK _ _ ?_
      exact ⟨_, _, _, _, _, _, _, _, _, _, _, _, _, _, _, _, _, _, _, _, _, _, _, _, _, _, _, _, _, _, _, _, _, _, _, _, rfl, lk F0, lk F1, lk F2, lk F3, lk F4, lk F5, lk F6, lk F7, lk F8, lk F9, lk F10, lk F11, lk F12, lk F13, lk F14, lk F15, lk F16, lk F17, lk F18, lk F19, lk F20, lk F21, lk F22, lk F23, fun _ => rfl, lk F25, lk F26, lk F27, lk F28, lk F29, lk F30, lk F31, lk F32, lk F33, lk F34, lk F35, F36, F37, F38, F39, F40, F41, F42, F43, F44, F45⟩
    · simp only [List.getElem?_toArray, List.getElem?_cons_zero, List.getElem?_cons_succ, Option.some.injEq] at ho
      subst ho
      obtain rfl := F22 (hd ⟨22, .guard⟩ (by simp) rfl)
      refine wpOp_step rfl (fun K hK => ?_)
      go_simp
      refine hK _ _ ?_
      exact ⟨_, _, _, _, _, _, _, _, _, _, _, _, _, _, _, _, _, _, _, _, _, _, _, _, _, _, _, _, _, _, _, _, _, _, _, _, rfl, lk F0, lk F1, lk F2, lk F3, lk F4, lk F5, lk F6, lk F7, lk F8, lk F9, lk F10, lk F11, lk F12, lk F13, lk F14, lk F15, lk F16, lk F17, lk F18, lk F19, lk F20, lk F21, lk F22, lk F23, lk F24, fun _ => rfl, lk F26, lk F27, lk F28, lk F29, lk F30, lk F31, lk F32, lk F33, lk F34, lk F35, F36, F37, F38, F39, F40, F41, F42, F43, F44, F45⟩
    · simp only [List.getElem?_toArray, List.getElem?_cons_zero, List.getElem?_cons_succ, Option.some.injEq] at ho
      subst ho
      obtain rfl := F24 (hd ⟨24, .data⟩ (by simp) rfl)
      obtain rfl := F25 (hd ⟨25, .data⟩ (by simp) rfl)
      obtain rfl := F22 (hd ⟨22, .guard⟩ (by simp) rfl)
      refine wpOp_step rfl (fun K hK => ?_)
      go_simp
      refine hK _ _ ?_
      exact ⟨_, _, _, _, _, _, _, _, _, _, _, _, _, _, _, _, _, _, _, _, _, _, _, _, _, _, _, _, _, _, _, _, _, _, _, _, rfl, lk F0, lk F1, lk F2, lk F3, lk F4, lk F5, lk F6, lk F7, lk F8, lk F9, lk F10, lk F11, lk F12, lk F13, lk F14, lk F15, lk F16, lk F17, lk F18, lk F19, lk F20, lk F21, lk F22, lk F23, lk F24, lk F25, fun _ => rfl, lk F27, lk F28, lk F29, lk F30, lk F31, lk F32, lk F33, lk F34, lk F35, F36, F37, F38, F39, F40, F41, F42, F43, F44, F45⟩
    · simp only [List.getElem?_toArray, List.getElem?_cons_zero, List.getElem?_cons_succ, Option.some.injEq] at ho
      subst ho
      obtain rfl := F26 (hd ⟨26, .data⟩ (by simp) rfl)
      obtain rfl := F22 (hd ⟨22, .guard⟩ (by simp) rfl)
      have h0 := X0.out _ F36; have h1 := X1.out _ F36; have h2 := X2.out _ F36; have h3 := X3.out _ F36; have h4 := X4.out _ F36; have h5 := X5.out _ F36
      refine wpOp_step rfl (fun K hK => ?_)
      go_simp
      refine hK _ _ ?_
      exact ⟨_, _, _, _, _, _, _, _, _, _, _, _, _, _, _, _, _, _, _, _, _, _, _, _, _, _, _, _, _, _, _, _, _, _, _, _, rfl, lk F0, lk F1, lk F2, lk F3, lk F4, lk F5, lk F6, lk F7, lk F8, lk F9, lk F10, lk F11, lk F12, lk F13, lk F14, lk F15, lk F16, lk F17, lk F18, lk F19, lk F20, lk F21, lk F22, lk F23, lk F24, lk F25, lk F26, fun _ => rfl, lk F28, lk F29, lk F30, lk F31, lk F32, lk F33, lk F34, lk F35, F36, F37, F38, F39, F40, F41, F42, F43, F44, F45⟩
    · simp only [List.getElem?_toArray, List.getElem?_cons_zero, List.getElem?_cons_succ, Option.some.injEq] at ho
      subst ho
      obtain rfl := F22 (hd ⟨22, .guard⟩ (by simp) rfl)
      have h0 := F37; have h1 := F38; have h2 := F39
      refine wpOp_step rfl (fun K hK => ?_)
      go_simp
      refine hK _ _ ?_
      exact ⟨_, _, _, _, _, _, _, _, _, _, _, _, _, _, _, _, _, _, _, _, _, _, _, _, _, _, _, _, _, _, _, _, _, _, _, _, rfl, lk F0, lk F1, lk F2, lk F3, lk F4, lk F5, lk F6, lk F7, lk F8, lk F9, lk F10, lk F11, lk F12, lk F13, lk F14, lk F15, lk F16, lk F17, lk F18, lk F19, lk F20, lk F21, lk F22, lk F23, lk F24, lk F25, lk F26, lk F27, fun _ => rfl, lk F29, lk F30, lk F31, lk F32, lk F33, lk F34, lk F35, F36, F37, F38, F39, F40, F41, F42, F43, F44, F45⟩
    · simp only [List.getElem?_toArray, List.getElem?_cons_zero, List.getElem?_cons_succ, Option.some.injEq] at ho
      subst ho
      obtain rfl := F23 (hd ⟨23, .data⟩ (by simp) rfl)
      obtain rfl := F27 (hd ⟨27, .data⟩ (by simp) rfl)
      obtain rfl := F28 (hd ⟨28, .data⟩ (by simp) rfl)
      obtain rfl := F22 (hd ⟨22, .guard⟩ (by simp) rfl)
      refine wpOp_step rfl (fun K hK => ?_)
      go_simp
      go_at_call 17
      refine (H3.out _ F36).mono ?_
      rintro e w' ⟨rfl, hb⟩
      refine hK _ _ ?_
      exact ⟨_, _, _, _, _, _, _, _, _, _, _, _, _, _, _, _, _, _, _, _, _, _, _, _, _, _, _, _, _, _, _, _, _, _, _, _, rfl, lk F0, lk F1, lk F2, lk F3, lk F4, lk F5, lk F6, lk F7, lk F8, lk F9, lk F10, lk F11, lk F12, lk F13, lk F14, lk F15, lk F16, lk F17, lk F18, lk F19, lk F20, lk F21, lk F22, lk F23, lk F24, lk F25, lk F26, lk F27, lk F28, fun _ => rfl, lk F30, lk F31, lk F32, lk F33, lk F34, lk F35, bt F36 hb, cell_call F37 hb, cell_call F38 hb, cell_call F39 hb, cell_call F40 hb, cell_call F41 hb, cell_call F42 hb, cell_call F43 hb, cell_call F44 hb, cell_call F45 hb⟩
    · simp only [List.getElem?_toArray, List.getElem?_cons_zero, List.getElem?_cons_succ, Option.some.injEq] at ho
      subst ho
      obtain rfl := F22 (hd ⟨22, .guard⟩ (by simp) rfl)
      have h0 := F40; have h1 := F41; have h2 := F42
      refine wpOp_step rfl (fun K hK => ?_)
      go_simp
      refine hK _ _ ?_
      exact ⟨_, _, _, _, _, _, _, _, _, _, _, _, _, _, _, _, _, _, _, _, _, _, _, _, _, _, _, _, _, _, _, _, _, _, _, _, rfl, lk F0, lk F1, lk F2, lk F3, lk F4, lk F5, lk F6, lk F7, lk F8, lk F9, lk F10, lk F11, lk F12, lk F13, lk F14, lk F15, lk F16, lk F17, lk F18, lk F19, lk F20, lk F21, lk F22, lk F23, lk F24, lk F25, lk F26, lk F27, lk F28, lk F29, fun _ => rfl, lk F31, lk F32, lk F33, lk F34, lk F35, F36, F37, F38, F39, F40, F41, F42, F43, F44, F45⟩
    · simp only [List.getElem?_toArray, List.getElem?_cons_zero, List.getElem?_cons_succ, Option.some.injEq] at ho
      subst ho
      obtain rfl := F22 (hd ⟨22, .guard⟩ (by simp) rfl)
      have h0 := F43; have h1 := F44; have h2 := F45
      refine wpOp_step rfl (fun K hK => ?_)
      go_simp
      refine hK _ _ ?_
      exact ⟨_, _, _, _, _, _, _, _, _, _, _, _, _, _, _, _, _, _, _, _, _, _, _, _, _, _, _, _, _, _, _, _, _, _, _, _, rfl, lk F0, lk F1, lk F2, lk F3, lk F4, lk F5, lk F6, lk F7, lk F8, lk F9, lk F10, lk F11, lk F12, lk F13, lk F14, lk F15, lk F16, lk F17, lk F18, lk F19, lk F20, lk F21, lk F22, lk F23, lk F24, lk F25, lk F26, lk F27, lk F28, lk F29, lk F30, fun _ => rfl, lk F32, lk F33, lk F34, lk F35, F36, F37, F38, F39, F40, F41, F42, F43, F44, F45⟩
    · simp only [List.getElem?_toArray, List.getElem?_cons_zero, List.getElem?_cons_succ, Option.some.injEq] at ho
      subst ho
      obtain rfl := F30 (hd ⟨30, .data⟩ (by simp) rfl)
      obtain rfl := F31 (hd ⟨31, .data⟩ (by simp) rfl)
      obtain rfl := F22 (hd ⟨22, .guard⟩ (by simp) rfl)
      refine wpOp_step rfl (fun K hK => ?_)
      go_simp
      go_at_call 22
      refine (H4.out _ F36).mono ?_
      rintro e w' ⟨rfl, hb⟩
      refine hK _ _ ?_
      exact ⟨_, _, _, _, _, _, _, _, _, _, _, _, _, _, _, _, _, _, _, _, _, _, _, _, _, _, _, _, _, _, _, _, _, _, _, _, rfl, lk F0, lk F1, lk F2, lk F3, lk F4, lk F5, lk F6, lk F7, lk F8, lk F9, lk F10, lk F11, lk F12, lk F13, lk F14, lk F15, lk F16, lk F17, lk F18, lk F19, lk F20, lk F21, lk F22, lk F23, lk F24, lk F25, lk F26, lk F27, lk F28, lk F29, lk F30, lk F31, fun _ => rfl, lk F33, lk F34, lk F35, bt F36 hb, cell_call F37 hb, cell_call F38 hb, cell_call F39 hb, cell_call F40 hb, cell_call F41 hb, cell_call F42 hb, cell_call F43 hb, cell_call F44 hb, cell_call F45 hb⟩
    · simp only [List.getElem?_toArray, List.getElem?_cons_zero, List.getElem?_cons_succ, Option.some.injEq] at ho
      subst ho
      obtain rfl := F29 (hd ⟨29, .data⟩ (by simp) rfl)
      obtain rfl := F32 (hd ⟨32, .data⟩ (by simp) rfl)
      obtain rfl := F22 (hd ⟨22, .guard⟩ (by simp) rfl)
      refine wpOp_step rfl (fun K hK => ?_)
      go_simp
      refine hK _ _ ?_
      exact ⟨_, _, _, _, _, _, _, _, _, _, _, _, _, _, _, _, _, _, _, _, _, _, _, _, _, _, _, _, _, _, _, _, _, _, _, _, rfl, lk F0, lk F1, lk F2, lk F3, lk F4, lk F5, lk F6, lk F7, lk F8, lk F9, lk F10, lk F11, lk F12, lk F13, lk F14, lk F15, lk F16, lk F17, lk F18, lk F19, lk F20, lk F21, lk F22, lk F23, lk F24, lk F25, lk F26, lk F27, lk F28, lk F29, lk F30, lk F31, lk F32, fun _ => rfl, lk F34, lk F35, F36, F37, F38, F39, F40, F41, F42, F43, F44, F45⟩
    · simp only [List.getElem?_toArray, List.getElem?_cons_zero, List.getElem?_cons_succ, Option.some.injEq] at ho
      subst ho
      obtain rfl := F22 (hd ⟨22, .data⟩ (by simp) rfl)
      obtain rfl := F33 (hd ⟨33, .data⟩ (by simp) rfl)
      obtain rfl := F18 (hd ⟨18, .guard⟩ (by simp) rfl)
      refine wpOp_step rfl (fun K hK => ?_)
      go_simp
      refine hK _ _ ?_
      exact ⟨_, _, _, _, _, _, _, _, _, _, _, _, _, _, _, _, _, _, _, _, _, _, _, _, _, _, _, _, _, _, _, _, _, _, _, _, rfl, lk F0, lk F1, lk F2, lk F3, lk F4, lk F5, lk F6, lk F7, lk F8, lk F9, lk F10, lk F11, lk F12, lk F13, lk F14, lk F15, lk F16, lk F17, lk F18, lk F19, lk F20, lk F21, lk F22, lk F23, lk F24, lk F25, lk F26, lk F27, lk F28, lk F29, lk F30, lk F31, lk F32, lk F33, fun _ => rfl, lk F35, F36, F37, F38, F39, F40, F41, F42, F43, F44, F45⟩
    · simp only [List.getElem?_toArray, List.getElem?_cons_zero, List.getElem?_cons_succ, Option.some.injEq] at ho
      subst ho
      obtain rfl := F18 (hd ⟨18, .data⟩ (by simp) rfl)
      obtain rfl := F34 (hd ⟨34, .data⟩ (by simp) rfl)
      refine wpOp_step rfl (fun K hK => ?_)
      go_simp
      refine hK _ _ ?_
      exact ⟨_, _, _, _, _, _, _, _, _, _, _, _, _, _, _, _, _, _, _, _, _, _, _, _, _, _, _, _, _, _, _, _, _, _, _, _, rfl, lk F0, lk F1, lk F2, lk F3, lk F4, lk F5, lk F6, lk F7, lk F8, lk F9, lk F10, lk F11, lk F12, lk F13, lk F14, lk F15, lk F16, lk F17, lk F18, lk F19, lk F20, lk F21, lk F22, lk F23, lk F24, lk F25, lk F26, lk F27, lk F28, lk F29, lk F30, lk F31, lk F32, lk F33, lk F34, fun _ => rfl, F36, F37, F38, F39, F40, F41, F42, F43, F44, F45⟩
  · intro listed A w hall hI
    unfold KrI at hI
    obtain ⟨s53, hI⟩ := hI
    obtain ⟨s54, hI⟩ := hI
    obtain ⟨s55, hI⟩ := hI
    obtain ⟨s56, hI⟩ := hI
    obtain ⟨s57, hI⟩ := hI
    obtain ⟨s58, hI⟩ := hI
    obtain ⟨s59, hI⟩ := hI
    obtain ⟨s60, hI⟩ := hI
    obtain ⟨s61, hI⟩ := hI
    obtain ⟨s62, hI⟩ := hI
    obtain ⟨s63, hI⟩ := hI
    obtain ⟨s64, hI⟩ := hI
    obtain ⟨s65, hI⟩ := hI
    obtain ⟨s66, hI⟩ := hI
    obtain ⟨s67, hI⟩ := hI
    obtain ⟨s68, hI⟩ := hI
    obtain ⟨s69, hI⟩ := hI
    obtain ⟨s70, hI⟩ := hI
    obtain ⟨s71, hI⟩ := hI
    obtain ⟨s72, hI⟩ := hI
    obtain ⟨s73, hI⟩ := hI
    obtain ⟨s74, hI⟩ := hI
    obtain ⟨s75, hI⟩ := hI
    obtain ⟨s76, hI⟩ := hI
    obtain ⟨s77, hI⟩ := hI
    obtain ⟨s78, hI⟩ := hI
    obtain ⟨s79, hI⟩ := hI
    obtain ⟨s80, hI⟩ := hI
    obtain ⟨s81, hI⟩ := hI
    obtain ⟨s82, hI⟩ := hI
    obtain ⟨s83, hI⟩ := hI
    obtain ⟨s84, hI⟩ := hI
    obtain ⟨s85, hI⟩ := hI
    obtain ⟨s86, hI⟩ := hI
    obtain ⟨s87, hI⟩ := hI
    obtain ⟨s88, hI⟩ := hI
    obtain ⟨rfl, hI⟩ := hI
    obtain ⟨F0, hI⟩ := hI
    obtain ⟨F1, hI⟩ := hI
    obtain ⟨F2, hI⟩ := hI
    obtain ⟨F3, hI⟩ := hI
    obtain ⟨F4, hI⟩ := hI
    obtain ⟨F5, hI⟩ := hI
    obtain ⟨F6, hI⟩ := hI
    obtain ⟨F7, hI⟩ := hI
    obtain ⟨F8, hI⟩ := hI
    obtain ⟨F9, hI⟩ := hI
    obtain ⟨F10, hI⟩ := hI
    obtain ⟨F11, hI⟩ := hI
    obtain ⟨F12, hI⟩ := hI
    obtain ⟨F13, hI⟩ := hI
    obtain ⟨F14, hI⟩ := hI
    obtain ⟨F15, hI⟩ := hI
    obtain ⟨F16, hI⟩ := hI
    obtain ⟨F17, hI⟩ := hI
    obtain ⟨F18, hI⟩ := hI
    obtain ⟨F19, hI⟩ := hI
    obtain ⟨F20, hI⟩ := hI
    obtain ⟨F21, hI⟩ := hI
    obtain ⟨F22, hI⟩ := hI
    obtain ⟨F23, hI⟩ := hI
    obtain ⟨F24, hI⟩ := hI
    obtain ⟨F25, hI⟩ := hI
    obtain ⟨F26, hI⟩ := hI
    obtain ⟨F27, hI⟩ := hI
    obtain ⟨F28, hI⟩ := hI
    obtain ⟨F29, hI⟩ := hI
    obtain ⟨F30, hI⟩ := hI
    obtain ⟨F31, hI⟩ := hI
    obtain ⟨F32, hI⟩ := hI
    obtain ⟨F33, hI⟩ := hI
    obtain ⟨F34, hI⟩ := hI
    obtain ⟨F35, hI⟩ := hI
    obtain ⟨F36, hI⟩ := hI
    obtain ⟨F37, hI⟩ := hI
    obtain ⟨F38, hI⟩ := hI
    obtain ⟨F39, hI⟩ := hI
    obtain ⟨F40, hI⟩ := hI
    obtain ⟨F41, hI⟩ := hI
    obtain ⟨F42, hI⟩ := hI
    obtain ⟨F43, hI⟩ := hI
    obtain ⟨F44, hI⟩ := hI
    have F45 := hI; clear hI
    obtain rfl := F0 (hall 0 (by decide))
    obtain rfl := F1 (hall 1 (by decide))
    obtain rfl := F2 (hall 2 (by decide))
    obtain rfl := F3 (hall 3 (by decide))
    obtain rfl := F4 (hall 4 (by decide))
    obtain rfl := F5 (hall 5 (by decide))
    obtain rfl := F6 (hall 6 (by decide))
    obtain rfl := F7 (hall 7 (by decide))
    obtain rfl := F8 (hall 8 (by decide))
    obtain rfl := F9 (hall 9 (by decide))
    obtain rfl := F10 (hall 10 (by decide))
    obtain rfl := F11 (hall 11 (by decide))
    obtain rfl := F12 (hall 12 (by decide))
    obtain rfl := F13 (hall 13 (by decide))
    obtain rfl := F14 (hall 14 (by decide))
    obtain rfl := F15 (hall 15 (by decide))
    obtain rfl := F16 (hall 16 (by decide))
    obtain rfl := F17 (hall 17 (by decide))
    obtain rfl := F18 (hall 18 (by decide))
    obtain rfl := F19 (hall 19 (by decide))
    obtain rfl := F20 (hall 20 (by decide))
    obtain rfl := F21 (hall 21 (by decide))
    obtain rfl := F22 (hall 22 (by decide))
    obtain rfl := F23 (hall 23 (by decide))
    obtain rfl := F24 (hall 24 (by decide))
    obtain rfl := F25 (hall 25 (by decide))
    obtain rfl := F26 (hall 26 (by decide))
    obtain rfl := F27 (hall 27 (by decide))
    obtain rfl := F28 (hall 28 (by decide))
    obtain rfl := F29 (hall 29 (by decide))
    obtain rfl := F30 (hall 30 (by decide))
    obtain rfl := F31 (hall 31 (by decide))
    obtain rfl := F32 (hall 32 (by decide))
    obtain rfl := F33 (hall 33 (by decide))
    obtain rfl := F34 (hall 34 (by decide))
    obtain rfl := F35 (hall 35 (by decide))
    have HB := F36
    have Q0 := F37
    have Q1 := F38
    have Q2 := F39
    have Q3 := F40
    have Q4 := F41
    have Q5 := F42
    have Q6 := F43
    have Q7 := F44
    have Q8 := F45
    exact hQ _ trivial HB
def KsI (w0 : World) (ad : Addr) (gt gk go sb ni ci j ki ko oi oo to : Nat) (xm xk xn xc : Int) (xs kn on tn : ByteArray) (xb _r : Bool) (c0 c2 c3 c4 c6 c8 c9 c10 c14 c15 c16 c17 c18 c19 c20 c21 c22 c23 c24 c25 c26 c27 c28 c29 c30 c31 c32 c33 c34 c35 c36 c37 c38 c39 c40 c41 c42 c43 c44 c45 c46 c47 c48 c49 c50 c51 c52 c89 c90 c91 c92 c93 c94 c95 c96 : Value) (listed : Array Bool) (A : Act) (w : World) : Prop := ∃ (s53 s54 s55 s56 s57 s58 s59 s60 s61 s62 s63 s64 s65 s66 s67 s68 s69 s70 s71 s72 s73 s74 s75 s76 s77 s78 s79 s80 s81 s82 s83 s84 s85 s86 s87 s88 : Value), A = { tmps := #[c0, .slice (some ad) ni ci, c2, c3, c4, .pointer (some ⟨gt, 0, none⟩), c6, .pointer (some ⟨sb, 0, none⟩), c8, c9, c10, .int .i64 (j : Nat), .pointer (some ⟨gk, 0, none⟩), .pointer (some ⟨go, 0, none⟩), c14, c15, c16, c17, c18, c19, c20, c21, c22, c23, c24, c25, c26, c27, c28, c29, c30, c31, c32, c33, c34, c35, c36, c37, c38, c39, c40, c41, c42, c43, c44, c45, c46, c47, c48, c49, c50, c51, c52, s53, s54, s55, s56, s57, s58, s59, s60, s61, s62, s63, s64, s65, s66, s67, s68, s69, s70, s71, s72, s73, s74, s75, s76, s77, s78, s79, s80, s81, s82, s83, s84, s85, s86, s87, s88, c89, c90, c91, c92, c93, c94, c95, c96], defers := [] } ∧
  (listed.getD 0 false = true → s53 = .pointer (some ⟨sb, 0, none⟩)) ∧
  (listed.getD 1 false = true → s54 = .slice (some ad) ni ci) ∧
  (listed.getD 2 false = true → s55 = .int .i64 (j : Nat)) ∧
  (listed.getD 3 false = true → s56 = .pointer (some (ad.add (j * 6)))) ∧
  (listed.getD 4 false = true → s57 = .agg #[.int .i64 xm, .int .i64 xk, .int .i64 xn, .int .i64 xc, .string xs, .bool xb]) ∧
  (listed.getD 5 false = true → s58 = .agg #[.int .i64 (ki : Nat), .string kn, .int .i64 (ko : Nat)]) ∧
  (listed.getD 6 false = true → s59 = .bool true) ∧
  (listed.getD 7 false = true → s60 = .bool false) ∧
  (listed.getD 8 false = true → s61 = .bool false) ∧
  (listed.getD 9 false = true → s62 = .pointer (some ⟨sb, 0, none⟩)) ∧
  (listed.getD 10 false = true → s63 = .slice (some ad) ni ci) ∧
  (listed.getD 11 false = true → s64 = .int .i64 (j : Nat)) ∧
  (listed.getD 12 false = true → s65 = .pointer (some (ad.add (j * 6)))) ∧
  (listed.getD 13 false = true → s66 = .agg #[.int .i64 xm, .int .i64 xk, .int .i64 xn, .int .i64 xc, .string xs, .bool xb]) ∧
  (listed.getD 14 false = true → s67 = .agg #[.int .i64 13, .string ⟨#[]⟩, .int .i64 0]) ∧
  (listed.getD 15 false = true → s68 = .bool true) ∧
  (listed.getD 16 false = true → s69 = .bool false) ∧
  (listed.getD 17 false = true → s70 = .bool false) ∧
  (listed.getD 18 false = true → s71 = .bool false) ∧
  (listed.getD 19 false = true → s72 = .pointer (some ⟨gt, 0, none⟩)) ∧
  (listed.getD 20 false = true → s73 = .int .i64 0) ∧
  (listed.getD 21 false = true → s74 = .bool false) ∧
  (listed.getD 22 false = true → s75 = .bool false) ∧
  (listed.getD 23 false = true → s76 = undef) ∧
  (listed.getD 24 false = true → s77 = undef) ∧
  (listed.getD 25 false = true → s78 = undef) ∧
  (listed.getD 26 false = true → s79 = undef) ∧
  (listed.getD 27 false = true → s80 = undef) ∧
  (listed.getD 28 false = true → s81 = undef) ∧
  (listed.getD 29 false = true → s82 = undef) ∧
  (listed.getD 30 false = true → s83 = undef) ∧
  (listed.getD 31 false = true → s84 = undef) ∧
  (listed.getD 32 false = true → s85 = undef) ∧
  (listed.getD 33 false = true → s86 = undef) ∧
  (listed.getD 34 false = true → s87 = .bool false) ∧
  (listed.getD 35 false = true → s88 = .bool false) ∧
  Below w0.heap.size w0 w ∧
  w.cell? ⟨gt, 0, none⟩ = some (.int .i64 0) ∧
  w.cell? ⟨gt, 1, none⟩ = some (.string tn) ∧
  w.cell? ⟨gt, 2, none⟩ = some (.int .i64 (to : Nat)) ∧
  w.cell? ⟨gk, 0, none⟩ = some (.int .i64 (ki : Nat)) ∧
  w.cell? ⟨gk, 1, none⟩ = some (.string kn) ∧
  w.cell? ⟨gk, 2, none⟩ = some (.int .i64 (ko : Nat)) ∧
  w.cell? ⟨go, 0, none⟩ = some (.int .i64 (oi : Nat)) ∧
  w.cell? ⟨go, 1, none⟩ = some (.string on) ∧
  w.cell? ⟨go, 2, none⟩ = some (.int .i64 (oo : Nat))
set_option maxRecDepth 100000 in
set_option maxHeartbeats 16000000 in
theorem Ks_region (ad : Addr) (gt gk go sb ni ci j ki ko oi oo to : Nat) (xm xk xn xc : Int) (xs kn on tn : ByteArray) (xb r : Bool) {x53 x54 x55 x56 x57 x58 x59 x60 x61 x62 x63 x64 x65 x66 x67 x68 x69 x70 x71 x72 x73 x74 x75 x76 x77 x78 x79 x80 x81 x82 x83 x84 x85 x86 x87 x88 : Value} {c0 c2 c3 c4 c6 c8 c9 c10 c14 c15 c16 c17 c18 c19 c20 c21 c22 c23 c24 c25 c26 c27 c28 c29 c30 c31 c32 c33 c34 c35 c36 c37 c38 c39 c40 c41 c42 c43 c44 c45 c46 c47 c48 c49 c50 c51 c52 c89 c90 c91 c92 c93 c94 c95 c96 : Value} (w0 : World) {W : World} {Q : Exit → Act → World → Prop} (hb0 : Below w0.heap.size w0 W) (C0 : W.cell? ⟨gt, 0, none⟩ = some (.int .i64 0)) (C1 : W.cell? ⟨gt, 1, none⟩ = some (.string tn)) (C2 : W.cell? ⟨gt, 2, none⟩ = some (.int .i64 (to : Nat))) (C3 : W.cell? ⟨gk, 0, none⟩ = some (.int .i64 (ki : Nat))) (C4 : W.cell? ⟨gk, 1, none⟩ = some (.string kn)) (C5 : W.cell? ⟨gk, 2, none⟩ = some (.int .i64 (ko : Nat))) (C6 : W.cell? ⟨go, 0, none⟩ = some (.int .i64 (oi : Nat))) (C7 : W.cell? ⟨go, 1, none⟩ = some (.string on)) (C8 : W.cell? ⟨go, 2, none⟩ = some (.int .i64 (oo : Nat)))  (X0 : Hid (∀ w1, Below w0.heap.size w0 w1 → w1.cell? (ad.add (j * 6)) = some (.int .i64 xm))) (X1 : Hid (∀ w1, Below w0.heap.size w0 w1 → w1.cell? { block := (ad.add (j * 6)).block, off := (ad.add (j * 6)).off + 1 } = some (.int .i64 xk))) (X2 : Hid (∀ w1, Below w0.heap.size w0 w1 → w1.cell? { block := (ad.add (j * 6)).block, off := (ad.add (j * 6)).off + 2 } = some (.int .i64 xn))) (X3 : Hid (∀ w1, Below w0.heap.size w0 w1 → w1.cell? { block := (ad.add (j * 6)).block, off := (ad.add (j * 6)).off + 3 } = some (.int .i64 xc))) (X4 : Hid (∀ w1, Below w0.heap.size w0 w1 → w1.cell? { block := (ad.add (j * 6)).block, off := (ad.add (j * 6)).off + 4 } = some (.string xs))) (X5 : Hid (∀ w1, Below w0.heap.size w0 w1 → w1.cell? { block := (ad.add (j * 6)).block, off := (ad.add (j * 6)).off + 5 } = some (.bool xb))) (H1 : Hid (∀ w1, Below w0.heap.size w0 w1 → Calls Tryd.prog 17 #[.pointer (some ⟨sb, 0, none⟩), .agg #[.int .i64 xm, .int .i64 xk, .int .i64 xn, .int .i64 xc, .string xs, .bool xb], .agg #[.int .i64 (ki : Nat), .string kn, .int .i64 (ko : Nat)]] w1 fun e w' => e = .returned (.bool true) ∧ Below w1.heap.size w1 w')) (H2 : Hid (∀ w1, Below w0.heap.size w0 w1 → Calls Tryd.prog 17 #[.pointer (some ⟨sb, 0, none⟩), .agg #[.int .i64 xm, .int .i64 xk, .int .i64 xn, .int .i64 xc, .string xs, .bool xb], .agg #[.int .i64 13, .string ⟨#[]⟩, .int .i64 0]] w1 fun e w' => e = .returned (.bool true) ∧ Below w1.heap.size w1 w')) (hj : j < ni) (_hj' : decide (j < ni) = true)
    (hQ : ∀ (w : World) , (True) → Below w0.heap.size w0 w → Q .normal { tmps := #[c0, .slice (some ad) ni ci, c2, c3, c4, .pointer (some ⟨gt, 0, none⟩), c6, .pointer (some ⟨sb, 0, none⟩), c8, c9, c10, .int .i64 (j : Nat), .pointer (some ⟨gk, 0, none⟩), .pointer (some ⟨go, 0, none⟩), c14, c15, c16, c17, c18, c19, c20, c21, c22, c23, c24, c25, c26, c27, c28, c29, c30, c31, c32, c33, c34, c35, c36, c37, c38, c39, c40, c41, c42, c43, c44, c45, c46, c47, c48, c49, c50, c51, c52, .pointer (some ⟨sb, 0, none⟩), .slice (some ad) ni ci, .int .i64 (j : Nat), .pointer (some (ad.add (j * 6))), .agg #[.int .i64 xm, .int .i64 xk, .int .i64 xn, .int .i64 xc, .string xs, .bool xb], .agg #[.int .i64 (ki : Nat), .string kn, .int .i64 (ko : Nat)], .bool true, .bool false, .bool false, .pointer (some ⟨sb, 0, none⟩), .slice (some ad) ni ci, .int .i64 (j : Nat), .pointer (some (ad.add (j * 6))), .agg #[.int .i64 xm, .int .i64 xk, .int .i64 xn, .int .i64 xc, .string xs, .bool xb], .agg #[.int .i64 13, .string ⟨#[]⟩, .int .i64 0], .bool true, .bool false, .bool false, .bool false, .pointer (some ⟨gt, 0, none⟩), .int .i64 0, .bool false, .bool false, undef, undef, undef, undef, undef, undef, undef, undef, undef, undef, undef, .bool false, .bool false, c89, c90, c91, c92, c93, c94, c95, c96], defers := [] } w) :
    Code.wp Tryd.prog ((Tryd.f7.body.bind (regionOf 15)).getD .skip) Q { tmps := #[c0, .slice (some ad) ni ci, c2, c3, c4, .pointer (some ⟨gt, 0, none⟩), c6, .pointer (some ⟨sb, 0, none⟩), c8, c9, c10, .int .i64 (j : Nat), .pointer (some ⟨gk, 0, none⟩), .pointer (some ⟨go, 0, none⟩), c14, c15, c16, c17, c18, c19, c20, c21, c22, c23, c24, c25, c26, c27, c28, c29, c30, c31, c32, c33, c34, c35, c36, c37, c38, c39, c40, c41, c42, c43, c44, c45, c46, c47, c48, c49, c50, c51, c52, x53, x54, x55, x56, x57, x58, x59, x60, x61, x62, x63, x64, x65, x66, x67, x68, x69, x70, x71, x72, x73, x74, x75, x76, x77, x78, x79, x80, x81, x82, x83, x84, x85, x86, x87, x88, c89, c90, c91, c92, c93, c94, c95, c96], defers := [] } W := by
  conv => arg 2; whnf
  refine wp_region_inv (by kernel_rfl) (by kernel_rfl) (KsI w0 ad gt gk go sb ni ci j ki ko oi oo to xm xk xn xc xs kn on tn xb r c0 c2 c3 c4 c6 c8 c9 c10 c14 c15 c16 c17 c18 c19 c20 c21 c22 c23 c24 c25 c26 c27 c28 c29 c30 c31 c32 c33 c34 c35 c36 c37 c38 c39 c40 c41 c42 c43 c44 c45 c46 c47 c48 c49 c50 c51 c52 c89 c90 c91 c92 c93 c94 c95 c96) ?_ ?_ ?_
  · exact ⟨_, _, _, _, _, _, _, _, _, _, _, _, _, _, _, _, _, _, _, _, _, _, _, _, _, _, _, _, _, _, _, _, _, _, _, _, rfl, fun h => absurd h l0, fun h => absurd h l0, fun h => absurd h l0, fun h => absurd h l0, fun h => absurd h l0, fun h => absurd h l0, fun h => absurd h l0, fun h => absurd h l0, fun h => absurd h l0, fun h => absurd h l0, fun h => absurd h l0, fun h => absurd h l0, fun h => absurd h l0, fun h => absurd h l0, fun h => absurd h l0, fun h => absurd h l0, fun h => absurd h l0, fun h => absurd h l0, fun h => absurd h l0, fun h => absurd h l0, fun h => absurd h l0, fun h => absurd h l0, fun h => absurd h l0, fun h => absurd h l0, fun h => absurd h l0, fun h => absurd h l0, fun h => absurd h l0, fun h => absurd h l0, fun h => absurd h l0, fun h => absurd h l0, fun h => absurd h l0, fun h => absurd h l0, fun h => absurd h l0, fun h => absurd h l0, fun h => absurd h l0, fun h => absurd h l0, bdr hb0, C0, C1, C2, C3, C4, C5, C6, C7, C8⟩
  · intro i o listed A w hi ho hd hn hI
    unfold KsI at hI
    obtain ⟨s53, hI⟩ := hI
    obtain ⟨s54, hI⟩ := hI
    obtain ⟨s55, hI⟩ := hI
    obtain ⟨s56, hI⟩ := hI
    obtain ⟨s57, hI⟩ := hI
    obtain ⟨s58, hI⟩ := hI
    obtain ⟨s59, hI⟩ := hI
    obtain ⟨s60, hI⟩ := hI
    obtain ⟨s61, hI⟩ := hI
    obtain ⟨s62, hI⟩ := hI
    obtain ⟨s63, hI⟩ := hI
    obtain ⟨s64, hI⟩ := hI
    obtain ⟨s65, hI⟩ := hI
    obtain ⟨s66, hI⟩ := hI
    obtain ⟨s67, hI⟩ := hI
    obtain ⟨s68, hI⟩ := hI
    obtain ⟨s69, hI⟩ := hI
    obtain ⟨s70, hI⟩ := hI
    obtain ⟨s71, hI⟩ := hI
    obtain ⟨s72, hI⟩ := hI
    obtain ⟨s73, hI⟩ := hI
    obtain ⟨s74, hI⟩ := hI
    obtain ⟨s75, hI⟩ := hI
    obtain ⟨s76, hI⟩ := hI
    obtain ⟨s77, hI⟩ := hI
    obtain ⟨s78, hI⟩ := hI
    obtain ⟨s79, hI⟩ := hI
    obtain ⟨s80, hI⟩ := hI
    obtain ⟨s81, hI⟩ := hI
    obtain ⟨s82, hI⟩ := hI
    obtain ⟨s83, hI⟩ := hI
    obtain ⟨s84, hI⟩ := hI
    obtain ⟨s85, hI⟩ := hI
    obtain ⟨s86, hI⟩ := hI
    obtain ⟨s87, hI⟩ := hI
    obtain ⟨s88, hI⟩ := hI
    obtain ⟨rfl, hI⟩ := hI
    obtain ⟨F0, hI⟩ := hI
    obtain ⟨F1, hI⟩ := hI
    obtain ⟨F2, hI⟩ := hI
    obtain ⟨F3, hI⟩ := hI
    obtain ⟨F4, hI⟩ := hI
    obtain ⟨F5, hI⟩ := hI
    obtain ⟨F6, hI⟩ := hI
    obtain ⟨F7, hI⟩ := hI
    obtain ⟨F8, hI⟩ := hI
    obtain ⟨F9, hI⟩ := hI
    obtain ⟨F10, hI⟩ := hI
    obtain ⟨F11, hI⟩ := hI
    obtain ⟨F12, hI⟩ := hI
    obtain ⟨F13, hI⟩ := hI
    obtain ⟨F14, hI⟩ := hI
    obtain ⟨F15, hI⟩ := hI
    obtain ⟨F16, hI⟩ := hI
    obtain ⟨F17, hI⟩ := hI
    obtain ⟨F18, hI⟩ := hI
    obtain ⟨F19, hI⟩ := hI
    obtain ⟨F20, hI⟩ := hI
    obtain ⟨F21, hI⟩ := hI
    obtain ⟨F22, hI⟩ := hI
    obtain ⟨F23, hI⟩ := hI
    obtain ⟨F24, hI⟩ := hI
    obtain ⟨F25, hI⟩ := hI
    obtain ⟨F26, hI⟩ := hI
    obtain ⟨F27, hI⟩ := hI
    obtain ⟨F28, hI⟩ := hI
    obtain ⟨F29, hI⟩ := hI
    obtain ⟨F30, hI⟩ := hI
    obtain ⟨F31, hI⟩ := hI
    obtain ⟨F32, hI⟩ := hI
    obtain ⟨F33, hI⟩ := hI
    obtain ⟨F34, hI⟩ := hI
    obtain ⟨F35, hI⟩ := hI
    obtain ⟨F36, hI⟩ := hI
    obtain ⟨F37, hI⟩ := hI
    obtain ⟨F38, hI⟩ := hI
    obtain ⟨F39, hI⟩ := hI
    obtain ⟨F40, hI⟩ := hI
    obtain ⟨F41, hI⟩ := hI
    obtain ⟨F42, hI⟩ := hI
    obtain ⟨F43, hI⟩ := hI
    obtain ⟨F44, hI⟩ := hI
    have F45 := hI; clear hI
    have hi' : i < 36 := hi
    clear hi
    rcases (by omega : i = 0 ∨ i = 1 ∨ i = 2 ∨ i = 3 ∨ i = 4 ∨ i = 5 ∨ i = 6 ∨ i = 7 ∨ i = 8 ∨ i = 9 ∨ i = 10 ∨ i = 11 ∨ i = 12 ∨ i = 13 ∨ i = 14 ∨ i = 15 ∨ i = 16 ∨ i = 17 ∨ i = 18 ∨ i = 19 ∨ i = 20 ∨ i = 21 ∨ i = 22 ∨ i = 23 ∨ i = 24 ∨ i = 25 ∨ i = 26 ∨ i = 27 ∨ i = 28 ∨ i = 29 ∨ i = 30 ∨ i = 31 ∨ i = 32 ∨ i = 33 ∨ i = 34 ∨ i = 35) with rfl | rfl | rfl | rfl | rfl | rfl | rfl | rfl | rfl | rfl | rfl | rfl | rfl | rfl | rfl | rfl | rfl | rfl | rfl | rfl | rfl | rfl | rfl | rfl | rfl | rfl | rfl | rfl | rfl | rfl | rfl | rfl | rfl | rfl | rfl | rfl
    · simp only [List.getElem?_toArray, List.getElem?_cons_zero, Option.some.injEq] at ho
      subst ho
      refine wpOp_step rfl (fun K hK => ?_)
      go_simp
      refine hK _ _ ?_
      exact ⟨_, _, _, _, _, _, _, _, _, _, _, _, _, _, _, _, _, _, _, _, _, _, _, _, _, _, _, _, _, _, _, _, _, _, _, _, rfl, fun _ => rfl, lk F1, lk F2, lk F3, lk F4, lk F5, lk F6, lk F7, lk F8, lk F9, lk F10, lk F11, lk F12, lk F13, lk F14, lk F15, lk F16, lk F17, lk F18, lk F19, lk F20, lk F21, lk F22, lk F23, lk F24, lk F25, lk F26, lk F27, lk F28, lk F29, lk F30, lk F31, lk F32, lk F33, lk F34, lk F35, F36, F37, F38, F39, F40, F41, F42, F43, F44, F45⟩
    · simp only [List.getElem?_toArray, List.getElem?_cons_zero, List.getElem?_cons_succ, Option.some.injEq] at ho
      subst ho
      refine wpOp_step rfl (fun K hK => ?_)
      go_simp
      refine hK _ _ ?_
      exact ⟨_, _, _, _, _, _, _, _, _, _, _, _, _, _, _, _, _, _, _, _, _, _, _, _, _, _, _, _, _, _, _, _, _, _, _, _, rfl, lk F0, fun _ => rfl, lk F2, lk F3, lk F4, lk F5, lk F6, lk F7, lk F8, lk F9, lk F10, lk F11, lk F12, lk F13, lk F14, lk F15, lk F16, lk F17, lk F18, lk F19, lk F20, lk F21, lk F22, lk F23, lk F24, lk F25, lk F26, lk F27, lk F28, lk F29, lk F30, lk F31, lk F32, lk F33, lk F34, lk F35, F36, F37, F38, F39, F40, F41, F42, F43, F44, F45⟩
    · simp only [List.getElem?_toArray, List.getElem?_cons_zero, List.getElem?_cons_succ, Option.some.injEq] at ho
      subst ho
      refine wpOp_step rfl (fun K hK => ?_)
      go_simp
      refine hK _ _ ?_
      exact ⟨_, _, _, _, _, _, _, _, _, _, _, _, _, _, _, _, _, _, _, _, _, _, _, _, _, _, _, _, _, _, _, _, _, _, _, _, rfl, lk F0, lk F1, fun _ => rfl, lk F3, lk F4, lk F5, lk F6, lk F7, lk F8, lk F9, lk F10, lk F11, lk F12, lk F13, lk F14, lk F15, lk F16, lk F17, lk F18, lk F19, lk F20, lk F21, lk F22, lk F23, lk F24, lk F25, lk F26, lk F27, lk F28, lk F29, lk F30, lk F31, lk F32, lk F33, lk F34, lk F35, F36, F37, F38, F39, F40, F41, F42, F43, F44, F45⟩
    · simp only [List.getElem?_toArray, List.getElem?_cons_zero, List.getElem?_cons_succ, Option.some.injEq] at ho
      subst ho
      obtain rfl := F1 (hd ⟨1, .data⟩ (by simp) rfl)
      obtain rfl := F2 (hd ⟨2, .data⟩ (by simp) rfl)
      refine wpOp_step rfl (fun K hK => ?_)
      go_simp
      refine hK _ _ ?_
      exact ⟨_, _, _, _, _, _, _, _, _, _, _, _, _, _, _, _, _, _, _, _, _, _, _, _, _, _, _, _, _, _, _, _, _, _, _, _, rfl, lk F0, lk F1, lk F2, fun _ => rfl, lk F4, lk F5, lk F6, lk F7, lk F8, lk F9, lk F10, lk F11, lk F12, lk F13, lk F14, lk F15, lk F16, lk F17, lk F18, lk F19, lk F20, lk F21, lk F22, lk F23, lk F24, lk F25, lk F26, lk F27, lk F28, lk F29, lk F30, lk F31, lk F32, lk F33, lk F34, lk F35, F36, F37, F38, F39, F40, F41, F42, F43, F44, F45⟩
    · simp only [List.getElem?_toArray, List.getElem?_cons_zero, List.getElem?_cons_succ, Option.some.injEq] at ho
      subst ho
      obtain rfl := F3 (hd ⟨3, .data⟩ (by simp) rfl)
      have h0 := X0.out _ F36; have h1 := X1.out _ F36; have h2 := X2.out _ F36; have h3 := X3.out _ F36; have h4 := X4.out _ F36; have h5 := X5.out _ F36
      refine wpOp_step rfl (fun K hK => ?_)
      go_simp
      refine hK _ _ ?_
      exact ⟨_, _, _, _, _, _, _, _, _, _, _, _, _, _, _, _, _, _, _, _, _, _, _, _, _, _, _, _, _, _, _, _, _, _, _, _, rfl, lk F0, lk F1, lk F2, lk F3, fun _ => rfl, lk F5, lk F6, lk F7, lk F8, lk F9, lk F10, lk F11, lk F12, lk F13, lk F14, lk F15, lk F16, lk F17, lk F18, lk F19, lk F20, lk F21, lk F22, lk F23, lk F24, lk F25, lk F26, lk F27, lk F28, lk F29, lk F30, lk F31, lk F32, lk F33, lk F34, lk F35, F36, F37, F38, F39, F40, F41, F42, F43, F44, F45⟩
    · simp only [List.getElem?_toArray, List.getElem?_cons_zero, List.getElem?_cons_succ, Option.some.injEq] at ho
      subst ho
      have h0 := F40; have h1 := F41; have h2 := F42
      refine wpOp_step rfl (fun K hK => ?_)
      go_simp
      refine hK _ _ ?_
      exact ⟨_, _, _, _, _, _, _, _, _, _, _, _, _, _, _, _, _, _, _, _, _, _, _, _, _, _, _, _, _, _, _, _, _, _, _, _, rfl, lk F0, lk F1, lk F2, lk F3, lk F4, fun _ => rfl, lk F6, lk F7, lk F8, lk F9, lk F10, lk F11, lk F12, lk F13, lk F14, lk F15, lk F16, lk F17, lk F18, lk F19, lk F20, lk F21, lk F22, lk F23, lk F24, lk F25, lk F26, lk F27, lk F28, lk F29, lk F30, lk F31, lk F32, lk F33, lk F34, lk F35, F36, F37, F38, F39, F40, F41, F42, F43, F44, F45⟩
    · simp only [List.getElem?_toArray, List.getElem?_cons_zero, List.getElem?_cons_succ, Option.some.injEq] at ho
      subst ho
      obtain rfl := F0 (hd ⟨0, .data⟩ (by simp) rfl)
      obtain rfl := F4 (hd ⟨4, .data⟩ (by simp) rfl)
      obtain rfl := F5 (hd ⟨5, .data⟩ (by simp) rfl)
      refine wpOp_step rfl (fun K hK => ?_)
      go_simp
      go_at_call 17
      refine (H1.out _ F36).mono ?_
      rintro e w' ⟨rfl, hb⟩
      refine hK _ _ ?_
      exact ⟨_, _, _, _, _, _, _, _, _, _, _, _, _, _, _, _, _, _, _, _, _, _, _, _, _, _, _, _, _, _, _, _, _, _, _, _, rfl, lk F0, lk F1, lk F2, lk F3, lk F4, lk F5, fun _ => rfl, lk F7, lk F8, lk F9, lk F10, lk F11, lk F12, lk F13, lk F14, lk F15, lk F16, lk F17, lk F18, lk F19, lk F20, lk F21, lk F22, lk F23, lk F24, lk F25, lk F26, lk F27, lk F28, lk F29, lk F30, lk F31, lk F32, lk F33, lk F34, lk F35, bt F36 hb, cell_call F37 hb, cell_call F38 hb, cell_call F39 hb, cell_call F40 hb, cell_call F41 hb, cell_call F42 hb, cell_call F43 hb, cell_call F44 hb, cell_call F45 hb⟩
    · simp only [List.getElem?_toArray, List.getElem?_cons_zero, List.getElem?_cons_succ, Option.some.injEq] at ho
      subst ho
      obtain rfl := F6 (hd ⟨6, .data⟩ (by simp) rfl)
      refine wpOp_step rfl (fun K hK => ?_)
      go_simp
      refine hK _ _ ?_
      exact ⟨_, _, _, _, _, _, _, _, _, _, _, _, _, _, _, _, _, _, _, _, _, _, _, _, _, _, _, _, _, _, _, _, _, _, _, _, rfl, lk F0, lk F1, lk F2, lk F3, lk F4, lk F5, lk F6, fun _ => rfl, lk F8, lk F9, lk F10, lk F11, lk F12, lk F13, lk F14, lk F15, lk F16, lk F17, lk F18, lk F19, lk F20, lk F21, lk F22, lk F23, lk F24, lk F25, lk F26, lk F27, lk F28, lk F29, lk F30, lk F31, lk F32, lk F33, lk F34, lk F35, F36, F37, F38, F39, F40, F41, F42, F43, F44, F45⟩
    · simp only [List.getElem?_toArray, List.getElem?_cons_zero, List.getElem?_cons_succ, Option.some.injEq] at ho
      subst ho
      obtain rfl := F7 (hd ⟨7, .data⟩ (by simp) rfl)
      refine wpOp_step rfl (fun K hK => ?_)
      go_simp
      refine hK _ _ ?_
      exact ⟨_, _, _, _, _, _, _, _, _, _, _, _, _, _, _, _, _, _, _, _, _, _, _, _, _, _, _, _, _, _, _, _, _, _, _, _, rfl, lk F0, lk F1, lk F2, lk F3, lk F4, lk F5, lk F6, lk F7, fun _ => rfl, lk F9, lk F10, lk F11, lk F12, lk F13, lk F14, lk F15, lk F16, lk F17, lk F18, lk F19, lk F20, lk F21, lk F22, lk F23, lk F24, lk F25, lk F26, lk F27, lk F28, lk F29, lk F30, lk F31, lk F32, lk F33, lk F34, lk F35, F36, F37, F38, F39, F40, F41, F42, F43, F44, F45⟩
    · simp only [List.getElem?_toArray, List.getElem?_cons_zero, List.getElem?_cons_succ, Option.some.injEq] at ho
      subst ho
      obtain rfl := F8 (hd ⟨8, .guard⟩ (by simp) rfl)
      refine wpOp_step rfl (fun K hK => ?_)
      go_simp
      refine hK _ _ ?_
      exact ⟨_, _, _, _, _, _, _, _, _, _, _, _, _, _, _, _, _, _, _, _, _, _, _, _, _, _, _, _, _, _, _, _, _, _, _, _, rfl, lk F0, lk F1, lk F2, lk F3, lk F4, lk F5, lk F6, lk F7, lk F8, fun _ => rfl, lk F10, lk F11, lk F12, lk F13, lk F14, lk F15, lk F16, lk F17, lk F18, lk F19, lk F20, lk F21, lk F22, lk F23, lk F24, lk F25, lk F26, lk F27, lk F28, lk F29, lk F30, lk F31, lk F32, lk F33, lk F34, lk F35, F36, F37, F38, F39, F40, F41, F42, F43, F44, F45⟩
    · simp only [List.getElem?_toArray, List.getElem?_cons_zero, List.getElem?_cons_succ, Option.some.injEq] at ho
      subst ho
      obtain rfl := F8 (hd ⟨8, .guard⟩ (by simp) rfl)
      refine wpOp_step rfl (fun K hK => ?_)
      go_simp
      refine hK _ _ ?_
      exact ⟨_, _, _, _, _, _, _, _, _, _, _, _, _, _, _, _, _, _, _, _, _, _, _, _, _, _, _, _, _, _, _, _, _, _, _, _, rfl, lk F0, lk F1, lk F2, lk F3, lk F4, lk F5, lk F6, lk F7, lk F8, lk F9, fun _ => rfl, lk F11, lk F12, lk F13, lk F14, lk F15, lk F16, lk F17, lk F18, lk F19, lk F20, lk F21, lk F22, lk F23, lk F24, lk F25, lk F26, lk F27, lk F28, lk F29, lk F30, lk F31, lk F32, lk F33, lk F34, lk F35, F36, F37, F38, F39, F40, F41, F42, F43, F44, F45⟩
    · simp only [List.getElem?_toArray, List.getElem?_cons_zero, List.getElem?_cons_succ, Option.some.injEq] at ho
      subst ho
      obtain rfl := F8 (hd ⟨8, .guard⟩ (by simp) rfl)
      refine wpOp_step rfl (fun K hK => ?_)
      go_simp
      refine hK _ _ ?_
      exact ⟨_, _, _, _, _, _, _, _, _, _, _, _, _, _, _, _, _, _, _, _, _, _, _, _, _, _, _, _, _, _, _, _, _, _, _, _, rfl, lk F0, lk F1, lk F2, lk F3, lk F4, lk F5, lk F6, lk F7, lk F8, lk F9, lk F10, fun _ => rfl, lk F12, lk F13, lk F14, lk F15, lk F16, lk F17, lk F18, lk F19, lk F20, lk F21, lk F22, lk F23, lk F24, lk F25, lk F26, lk F27, lk F28, lk F29, lk F30, lk F31, lk F32, lk F33, lk F34, lk F35, F36, F37, F38, F39, F40, F41, F42, F43, F44, F45⟩
    · simp only [List.getElem?_toArray, List.getElem?_cons_zero, List.getElem?_cons_succ, Option.some.injEq] at ho
      subst ho
      obtain rfl := F10 (hd ⟨10, .data⟩ (by simp) rfl)
      obtain rfl := F11 (hd ⟨11, .data⟩ (by simp) rfl)
      obtain rfl := F8 (hd ⟨8, .guard⟩ (by simp) rfl)
      refine wpOp_step rfl (fun K hK => ?_)
      go_simp
      refine hK _ _ ?_
      exact ⟨_, _, _, _, _, _, _, _, _, _, _, _, _, _, _, _, _, _, _, _, _, _, _, _, _, _, _, _, _, _, _, _, _, _, _, _, rfl, lk F0, lk F1, lk F2, lk F3, lk F4, lk F5, lk F6, lk F7, lk F8, lk F9, lk F10, lk F11, fun _ => rfl, lk F13, lk F14, lk F15, lk F16, lk F17, lk F18, lk F19, lk F20, lk F21, lk F22, lk F23, lk F24, lk F25, lk F26, lk F27, lk F28, lk F29, lk F30, lk F31, lk F32, lk F33, lk F34, lk F35, F36, F37, F38, F39, F40, F41, F42, F43, F44, F45⟩
    · simp only [List.getElem?_toArray, List.getElem?_cons_zero, List.getElem?_cons_succ, Option.some.injEq] at ho
      subst ho
      obtain rfl := F12 (hd ⟨12, .data⟩ (by simp) rfl)
      obtain rfl := F8 (hd ⟨8, .guard⟩ (by simp) rfl)
      have h0 := X0.out _ F36; have h1 := X1.out _ F36; have h2 := X2.out _ F36; have h3 := X3.out _ F36; have h4 := X4.out _ F36; have h5 := X5.out _ F36
      refine wpOp_step rfl (fun K hK => ?_)
      go_simp
      refine hK _ _ ?_
      exact ⟨_, _, _, _, _, _, _, _, _, _, _, _, _, _, _, _, _, _, _, _, _, _, _, _, _, _, _, _, _, _, _, _, _, _, _, _, rfl, lk F0, lk F1, lk F2, lk F3, lk F4, lk F5, lk F6, lk F7, lk F8, lk F9, lk F10, lk F11, lk F12, fun _ => rfl, lk F14, lk F15, lk F16, lk F17, lk F18, lk F19, lk F20, lk F21, lk F22, lk F23, lk F24, lk F25, lk F26, lk F27, lk F28, lk F29, lk F30, lk F31, lk F32, lk F33, lk F34, lk F35, F36, F37, F38, F39, F40, F41, F42, F43, F44, F45⟩
    · simp only [List.getElem?_toArray, List.getElem?_cons_zero, List.getElem?_cons_succ, Option.some.injEq] at ho
      subst ho
      obtain rfl := F8 (hd ⟨8, .guard⟩ (by simp) rfl)
      refine wpOp_step rfl (fun K hK => ?_)
      go_simp
      refine hK _ _ ?_
      exact ⟨_, _, _, _, _, _, _, _, _, _, _, _, _, _, _, _, _, _, _, _, _, _, _, _, _, _, _, _, _, _, _, _, _, _, _, _, rfl, lk F0, lk F1, lk F2, lk F3, lk F4, lk F5, lk F6, lk F7, lk F8, lk F9, lk F10, lk F11, lk F12, lk F13, fun _ => rfl, lk F15, lk F16, lk F17, lk F18, lk F19, lk F20, lk F21, lk F22, lk F23, lk F24, lk F25, lk F26, lk F27, lk F28, lk F29, lk F30, lk F31, lk F32, lk F33, lk F34, lk F35, F36, F37, F38, F39, F40, F41, F42, F43, F44, F45⟩
    · simp only [List.getElem?_toArray, List.getElem?_cons_zero, List.getElem?_cons_succ, Option.some.injEq] at ho
      subst ho
      obtain rfl := F9 (hd ⟨9, .data⟩ (by simp) rfl)
      obtain rfl := F13 (hd ⟨13, .data⟩ (by simp) rfl)
      obtain rfl := F14 (hd ⟨14, .data⟩ (by simp) rfl)
      obtain rfl := F8 (hd ⟨8, .guard⟩ (by simp) rfl)
      refine wpOp_step rfl (fun K hK => ?_)
      go_simp
      go_at_call 17
      refine (H2.out _ F36).mono ?_
      rintro e w' ⟨rfl, hb⟩
      refine hK _ _ ?_
      exact ⟨_, _, _, _, _, _, _, _, _, _, _, _, _, _, _, _, _, _, _, _, _, _, _, _, _, _, _, _, _, _, _, _, _, _, _, _, rfl, lk F0, lk F1, lk F2, lk F3, lk F4, lk F5, lk F6, lk F7, lk F8, lk F9, lk F10, lk F11, lk F12, lk F13, lk F14, fun _ => rfl, lk F16, lk F17, lk F18, lk F19, lk F20, lk F21, lk F22, lk F23, lk F24, lk F25, lk F26, lk F27, lk F28, lk F29, lk F30, lk F31, lk F32, lk F33, lk F34, lk F35, bt F36 hb, cell_call F37 hb, cell_call F38 hb, cell_call F39 hb, cell_call F40 hb, cell_call F41 hb, cell_call F42 hb, cell_call F43 hb, cell_call F44 hb, cell_call F45 hb⟩
    · simp only [List.getElem?_toArray, List.getElem?_cons_zero, List.getElem?_cons_succ, Option.some.injEq] at ho
      subst ho
      obtain rfl := F15 (hd ⟨15, .data⟩ (by simp) rfl)
      obtain rfl := F8 (hd ⟨8, .guard⟩ (by simp) rfl)
      refine wpOp_step rfl (fun K hK => ?_)
      go_simp
      refine hK _ _ ?_
      exact ⟨_, _, _, _, _, _, _, _, _, _, _, _, _, _, _, _, _, _, _, _, _, _, _, _, _, _, _, _, _, _, _, _, _, _, _, _, rfl, lk F0, lk F1, lk F2, lk F3, lk F4, lk F5, lk F6, lk F7, lk F8, lk F9, lk F10, lk F11, lk F12, lk F13, lk F14, lk F15, fun _ => rfl, lk F17, lk F18, lk F19, lk F20, lk F21, lk F22, lk F23, lk F24, lk F25, lk F26, lk F27, lk F28, lk F29, lk F30, lk F31, lk F32, lk F33, lk F34, lk F35, F36, F37, F38, F39, F40, F41, F42, F43, F44, F45⟩
    · simp only [List.getElem?_toArray, List.getElem?_cons_zero, List.getElem?_cons_succ, Option.some.injEq] at ho
      subst ho
      obtain rfl := F8 (hd ⟨8, .data⟩ (by simp) rfl)
      obtain rfl := F16 (hd ⟨16, .data⟩ (by simp) rfl)
      refine wpOp_step rfl (fun K hK => ?_)
      go_simp
      refine hK _ _ ?_
      exact ⟨_, _, _, _, _, _, _, _, _, _, _, _, _, _, _, _, _, _, _, _, _, _, _, _, _, _, _, _, _, _, _, _, _, _, _, _, rfl, lk F0, lk F1, lk F2, lk F3, lk F4, lk F5, lk F6, lk F7, lk F8, lk F9, lk F10, lk F11, lk F12, lk F13, lk F14, lk F15, lk F16, fun _ => rfl, lk F18, lk F19, lk F20, lk F21, lk F22, lk F23, lk F24, lk F25, lk F26, lk F27, lk F28, lk F29, lk F30, lk F31, lk F32, lk F33, lk F34, lk F35, F36, F37, F38, F39, F40, F41, F42, F43, F44, F45⟩
    · simp only [List.getElem?_toArray, List.getElem?_cons_zero, List.getElem?_cons_succ, Option.some.injEq] at ho
      subst ho
      obtain rfl := F17 (hd ⟨17, .data⟩ (by simp) rfl)
      refine wpOp_step rfl (fun K hK => ?_)
      go_simp
      refine hK _ _ ?_
      exact ⟨_, _, _, _, _, _, _, _, _, _, _, _, _, _, _, _, _, _, _, _, _, _, _, _, _, _, _, _, _, _, _, _, _, _, _, _, rfl, lk F0, lk F1, lk F2, lk F3, lk F4, lk F5, lk F6, lk F7, lk F8, lk F9, lk F10, lk F11, lk F12, lk F13, lk F14, lk F15, lk F16, lk F17, fun _ => rfl, lk F19, lk F20, lk F21, lk F22, lk F23, lk F24, lk F25, lk F26, lk F27, lk F28, lk F29, lk F30, lk F31, lk F32, lk F33, lk F34, lk F35, F36, F37, F38, F39, F40, F41, F42, F43, F44, F45⟩
    · simp only [List.getElem?_toArray, List.getElem?_cons_zero, List.getElem?_cons_succ, Option.some.injEq] at ho
      subst ho
      obtain rfl := F18 (hd ⟨18, .guard⟩ (by simp) rfl)
      refine wpOp_step rfl (fun K hK => ?_)
      go_simp
      refine hK _ _ ?_
      exact ⟨_, _, _, _, _, _, _, _, _, _, _, _, _, _, _, _, _, _, _, _, _, _, _, _, _, _, _, _, _, _, _, _, _, _, _, _, rfl, lk F0, lk F1, lk F2, lk F3, lk F4, lk F5, lk F6, lk F7, lk F8, lk F9, lk F10, lk F11, lk F12, lk F13, lk F14, lk F15, lk F16, lk F17, lk F18, fun _ => rfl, lk F20, lk F21, lk F22, lk F23, lk F24, lk F25, lk F26, lk F27, lk F28, lk F29, lk F30, lk F31, lk F32, lk F33, lk F34, lk F35, F36, F37, F38, F39, F40, F41, F42, F43, F44, F45⟩
    · simp only [List.getElem?_toArray, List.getElem?_cons_zero, List.getElem?_cons_succ, Option.some.injEq] at ho
      subst ho
      obtain rfl := F19 (hd ⟨19, .data⟩ (by simp) rfl)
      obtain rfl := F18 (hd ⟨18, .guard⟩ (by simp) rfl)
      have h0 := F37; have h1 := F38; have h2 := F39
      refine wpOp_step rfl (fun K hK => ?_)
      go_simp
      refine hK _ _ ?_
      exact ⟨_, _, _, _, _, _, _, _, _, _, _, _, _, _, _, _, _, _, _, _, _, _, _, _, _, _, _, _, _, _, _, _, _, _, _, _, rfl, lk F0, lk F1, lk F2, lk F3, lk F4, lk F5, lk F6, lk F7, lk F8, lk F9, lk F10, lk F11, lk F12, lk F13, lk F14, lk F15, lk F16, lk F17, lk F18, lk F19, fun _ => rfl, lk F21, lk F22, lk F23, lk F24, lk F25, lk F26, lk F27, lk F28, lk F29, lk F30, lk F31, lk F32, lk F33, lk F34, lk F35, F36, F37, F38, F39, F40, F41, F42, F43, F44, F45⟩
    · simp only [List.getElem?_toArray, List.getElem?_cons_zero, List.getElem?_cons_succ, Option.some.injEq] at ho
      subst ho
      obtain rfl := F20 (hd ⟨20, .data⟩ (by simp) rfl)
      obtain rfl := F18 (hd ⟨18, .guard⟩ (by simp) rfl)
      refine wpOp_step rfl (fun K hK => ?_)
      go_simp
      refine hK _ _ ?_
      exact ⟨_, _, _, _, _, _, _, _, _, _, _, _, _, _, _, _, _, _, _, _, _, _, _, _, _, _, _, _, _, _, _, _, _, _, _, _, rfl, lk F0, lk F1, lk F2, lk F3, lk F4, lk F5, lk F6, lk F7, lk F8, lk F9, lk F10, lk F11, lk F12, lk F13, lk F14, lk F15, lk F16, lk F17, lk F18, lk F19, lk F20, fun _ => rfl, lk F22, lk F23, lk F24, lk F25, lk F26, lk F27, lk F28, lk F29, lk F30, lk F31, lk F32, lk F33, lk F34, lk F35, F36, F37, F38, F39, F40, F41, F42, F43, F44, F45⟩
    · simp only [List.getElem?_toArray, List.getElem?_cons_zero, List.getElem?_cons_succ, Option.some.injEq] at ho
      subst ho
      obtain rfl := F21 (hd ⟨21, .data⟩ (by simp) rfl)
      obtain rfl := F18 (hd ⟨18, .guard⟩ (by simp) rfl)
      refine wpOp_step rfl (fun K hK => ?_)
      go_simp
      refine hK _ _ ?_
      exact ⟨_, _, _, _, _, _, _, _, _, _, _, _, _, _, _, _, _, _, _, _, _, _, _, _, _, _, _, _, _, _, _, _, _, _, _, _, rfl, lk F0, lk F1, lk F2, lk F3, lk F4, lk F5, lk F6, lk F7, lk F8, lk F9, lk F10, lk F11, lk F12, lk F13, lk F14, lk F15, lk F16, lk F17, lk F18, lk F19, lk F20, lk F21, fun _ => rfl, lk F23, lk F24, lk F25, lk F26, lk F27, lk F28, lk F29, lk F30, lk F31, lk F32, lk F33, lk F34, lk F35, F36, F37, F38, F39, F40, F41, F42, F43, F44, F45⟩
    · simp only [List.getElem?_toArray, List.getElem?_cons_zero, List.getElem?_cons_succ, Option.some.injEq] at ho
      subst ho
      obtain rfl := F22 (hd ⟨22, .guard⟩ (by simp) rfl)
      refine wpOp_step rfl (fun K hK => ?_)
      go_simp
      refine hK _ _ ?_
      exact ⟨_, _, _, _, _, _, _, _, _, _, _, _, _, _, _, _, _, _, _, _, _, _, _, _, _, _, _, _, _, _, _, _, _, _, _, _, rfl, lk F0, lk F1, lk F2, lk F3, lk F4, lk F5, lk F6, lk F7, lk F8, lk F9, lk F10, lk F11, lk F12, lk F13, lk F14, lk F15, lk F16, lk F17, lk F18, lk F19, lk F20, lk F21, lk F22, fun _ => rfl, lk F24, lk F25, lk F26, lk F27, lk F28, lk F29, lk F30, lk F31, lk F32, lk F33, lk F34, lk F35, F36, F37, F38, F39, F40, F41, F42, F43, F44, F45⟩
    · simp only [List.getElem?_toArray, List.getElem?_cons_zero, List.getElem?_cons_succ, Option.some.injEq] at ho
      subst ho
      obtain rfl := F22 (hd ⟨22, .guard⟩ (by simp) rfl)
      refine wpOp_step rfl (fun K hK => ?_)
      go_simp
      refine hK _ _ ?_
      exact ⟨_, _, _, _, _, _, _, _, _, _, _, _, _, _, _, _, _, _, _, _, _, _, _, _, _, _, _, _, _, _, _, _, _, _, _, _, rfl, lk F0, lk F1, lk F2, lk F3, lk F4, lk F5, lk F6, lk F7, lk F8, lk F9, lk F10, lk F11, lk F12, lk F13, lk F14, lk F15, lk F16, lk F17, lk F18, lk F19, lk F20, lk F21, lk F22, lk F23, fun _ => rfl, lk F25, lk F26, lk F27, lk F28, lk F29, lk F30, lk F31, lk F32, lk F33, lk F34, lk F35, F36, F37, F38, F39, F40, F41, F42, F43, F44, F45⟩
    · simp only [List.getElem?_toArray, List.getElem?_cons_zero, List.getElem?_cons_succ, Option.some.injEq] at ho
      subst ho
      obtain rfl := F22 (hd ⟨22, .guard⟩ (by simp) rfl)
      refine wpOp_step rfl (fun K hK => ?_)
      go_simp
      refine hK _ _ ?_
      exact ⟨_, _, _, _, _, _, _, _, _, _, _, _, _, _, _, _, _, _, _, _, _, _, _, _, _, _, _, _, _, _, _, _, _, _, _, _, rfl, lk F0, lk F1, lk F2, lk F3, lk F4, lk F5, lk F6, lk F7, lk F8, lk F9, lk F10, lk F11, lk F12, lk F13, lk F14, lk F15, lk F16, lk F17, lk F18, lk F19, lk F20, lk F21, lk F22, lk F23, lk F24, fun _ => rfl, lk F26, lk F27, lk F28, lk F29, lk F30, lk F31, lk F32, lk F33, lk F34, lk F35, F36, F37, F38, F39, F40, F41, F42, F43, F44, F45⟩
    · simp only [List.getElem?_toArray, List.getElem?_cons_zero, List.getElem?_cons_succ, Option.some.injEq] at ho
      subst ho
      obtain rfl := F22 (hd ⟨22, .guard⟩ (by simp) rfl)
      refine wpOp_step rfl (fun K hK => ?_)
      go_simp
      refine hK _ _ ?_
      exact ⟨_, _, _, _, _, _, _, _, _, _, _, _, _, _, _, _, _, _, _, _, _, _, _, _, _, _, _, _, _, _, _, _, _, _, _, _, rfl, lk F0, lk F1, lk F2, lk F3, lk F4, lk F5, lk F6, lk F7, lk F8, lk F9, lk F10, lk F11, lk F12, lk F13, lk F14, lk F15, lk F16, lk F17, lk F18, lk F19, lk F20, lk F21, lk F22, lk F23, lk F24, lk F25, fun _ => rfl, lk F27, lk F28, lk F29, lk F30, lk F31, lk F32, lk F33, lk F34, lk F35, F36, F37, F38, F39, F40, F41, F42, F43, F44, F45⟩
    · simp only [List.getElem?_toArray, List.getElem?_cons_zero, List.getElem?_cons_succ, Option.some.injEq] at ho
      subst ho
      obtain rfl := F22 (hd ⟨22, .guard⟩ (by simp) rfl)
      refine wpOp_step rfl (fun K hK => ?_)
      go_simp
      refine hK _ _ ?_
      exact ⟨_, _, _, _, _, _, _, _, _, _, _, _, _, _, _, _, _, _, _, _, _, _, _, _, _, _, _, _, _, _, _, _, _, _, _, _, rfl, lk F0, lk F1, lk F2, lk F3, lk F4, lk F5, lk F6, lk F7, lk F8, lk F9, lk F10, lk F11, lk F12, lk F13, lk F14, lk F15, lk F16, lk F17, lk F18, lk F19, lk F20, lk F21, lk F22, lk F23, lk F24, lk F25, lk F26, fun _ => rfl, lk F28, lk F29, lk F30, lk F31, lk F32, lk F33, lk F34, lk F35, F36, F37, F38, F39, F40, F41, F42, F43, F44, F45⟩
    · simp only [List.getElem?_toArray, List.getElem?_cons_zero, List.getElem?_cons_succ, Option.some.injEq] at ho
      subst ho
      obtain rfl := F22 (hd ⟨22, .guard⟩ (by simp) rfl)
      refine wpOp_step rfl (fun K hK => ?_)
      go_simp
      refine hK _ _ ?_
      exact ⟨_, _, _, _, _, _, _, _, _, _, _, _, _, _, _, _, _, _, _, _, _, _, _, _, _, _, _, _, _, _, _, _, _, _, _, _, rfl, lk F0, lk F1, lk F2, lk F3, lk F4, lk F5, lk F6, lk F7, lk F8, lk F9, lk F10, lk F11, lk F12, lk F13, lk F14, lk F15, lk F16, lk F17, lk F18, lk F19, lk F20, lk F21, lk F22, lk F23, lk F24, lk F25, lk F26, lk F27, fun _ => rfl, lk F29, lk F30, lk F31, lk F32, lk F33, lk F34, lk F35, F36, F37, F38, F39, F40, F41, F42, F43, F44, F45⟩
    · simp only [List.getElem?_toArray, List.getElem?_cons_zero, List.getElem?_cons_succ, Option.some.injEq] at ho
      subst ho
      obtain rfl := F22 (hd ⟨22, .guard⟩ (by simp) rfl)
      refine wpOp_step rfl (fun K hK => ?_)
      go_simp
      refine hK _ _ ?_
      exact ⟨_, _, _, _, _, _, _, _, _, _, _, _, _, _, _, _, _, _, _, _, _, _, _, _, _, _, _, _, _, _, _, _, _, _, _, _, rfl, lk F0, lk F1, lk F2, lk F3, lk F4, lk F5, lk F6, lk F7, lk F8, lk F9, lk F10, lk F11, lk F12, lk F13, lk F14, lk F15, lk F16, lk F17, lk F18, lk F19, lk F20, lk F21, lk F22, lk F23, lk F24, lk F25, lk F26, lk F27, lk F28, fun _ => rfl, lk F30, lk F31, lk F32, lk F33, lk F34, lk F35, F36, F37, F38, F39, F40, F41, F42, F43, F44, F45⟩
    · simp only [List.getElem?_toArray, List.getElem?_cons_zero, List.getElem?_cons_succ, Option.some.injEq] at ho
      subst ho
      obtain rfl := F22 (hd ⟨22, .guard⟩ (by simp) rfl)
      refine wpOp_step rfl (fun K hK => ?_)
      go_simp
      refine hK _ _ ?_
      exact ⟨_, _, _, _, _, _, _, _, _, _, _, _, _, _, _, _, _, _, _, _, _, _, _, _, _, _, _, _, _, _, _, _, _, _, _, _, rfl, lk F0, lk F1, lk F2, lk F3, lk F4, lk F5, lk F6, lk F7, lk F8, lk F9, lk F10, lk F11, lk F12, lk F13, lk F14, lk F15, lk F16, lk F17, lk F18, lk F19, lk F20, lk F21, lk F22, lk F23, lk F24, lk F25, lk F26, lk F27, lk F28, lk F29, fun _ => rfl, lk F31, lk F32, lk F33, lk F34, lk F35, F36, F37, F38, F39, F40, F41, F42, F43, F44, F45⟩
    · simp only [List.getElem?_toArray, List.getElem?_cons_zero, List.getElem?_cons_succ, Option.some.injEq] at ho
      subst ho
      obtain rfl := F22 (hd ⟨22, .guard⟩ (by simp) rfl)
      refine wpOp_step rfl (fun K hK => ?_)
      go_simp
      refine hK _ _ ?_
      exact ⟨_, _, _, _, _, _, _, _, _, _, _, _, _, _, _, _, _, _, _, _, _, _, _, _, _, _, _, _, _, _, _, _, _, _, _, _, rfl, lk F0, lk F1, lk F2, lk F3, lk F4, lk F5, lk F6, lk F7, lk F8, lk F9, lk F10, lk F11, lk F12, lk F13, lk F14, lk F15, lk F16, lk F17, lk F18, lk F19, lk F20, lk F21, lk F22, lk F23, lk F24, lk F25, lk F26, lk F27, lk F28, lk F29, lk F30, fun _ => rfl, lk F32, lk F33, lk F34, lk F35, F36, F37, F38, F39, F40, F41, F42, F43, F44, F45⟩
    · simp only [List.getElem?_toArray, List.getElem?_cons_zero, List.getElem?_cons_succ, Option.some.injEq] at ho
      subst ho
      obtain rfl := F22 (hd ⟨22, .guard⟩ (by simp) rfl)
      refine wpOp_step rfl (fun K hK => ?_)
      go_simp
      refine hK _ _ ?_
      exact ⟨_, _, _, _, _, _, _, _, _, _, _, _, _, _, _, _, _, _, _, _, _, _, _, _, _, _, _, _, _, _, _, _, _, _, _, _, rfl, lk F0, lk F1, lk F2, lk F3, lk F4, lk F5, lk F6, lk F7, lk F8, lk F9, lk F10, lk F11, lk F12, lk F13, lk F14, lk F15, lk F16, lk F17, lk F18, lk F19, lk F20, lk F21, lk F22, lk F23, lk F24, lk F25, lk F26, lk F27, lk F28, lk F29, lk F30, lk F31, fun _ => rfl, lk F33, lk F34, lk F35, F36, F37, F38, F39, F40, F41, F42, F43, F44, F45⟩
    · simp only [List.getElem?_toArray, List.getElem?_cons_zero, List.getElem?_cons_succ, Option.some.injEq] at ho
      subst ho
      obtain rfl := F22 (hd ⟨22, .guard⟩ (by simp) rfl)
      refine wpOp_step rfl (fun K hK => ?_)
      go_simp
      refine hK _ _ ?_
      exact ⟨_, _, _, _, _, _, _, _, _, _, _, _, _, _, _, _, _, _, _, _, _, _, _, _, _, _, _, _, _, _, _, _, _, _, _, _, rfl, lk F0, lk F1, lk F2, lk F3, lk F4, lk F5, lk F6, lk F7, lk F8, lk F9, lk F10, lk F11, lk F12, lk F13, lk F14, lk F15, lk F16, lk F17, lk F18, lk F19, lk F20, lk F21, lk F22, lk F23, lk F24, lk F25, lk F26, lk F27, lk F28, lk F29, lk F30, lk F31, lk F32, fun _ => rfl, lk F34, lk F35, F36, F37, F38, F39, F40, F41, F42, F43, F44, F45⟩
    · simp only [List.getElem?_toArray, List.getElem?_cons_zero, List.getElem?_cons_succ, Option.some.injEq] at ho
      subst ho
      obtain rfl := F22 (hd ⟨22, .data⟩ (by simp) rfl)
      obtain rfl := F18 (hd ⟨18, .guard⟩ (by simp) rfl)
      refine wpOp_step rfl (fun K hK => ?_)
      go_simp
      refine hK _ _ ?_
      exact ⟨_, _, _, _, _, _, _, _, _, _, _, _, _, _, _, _, _, _, _, _, _, _, _, _, _, _, _, _, _, _, _, _, _, _, _, _, rfl, lk F0, lk F1, lk F2, lk F3, lk F4, lk F5, lk F6, lk F7, lk F8, lk F9, lk F10, lk F11, lk F12, lk F13, lk F14, lk F15, lk F16, lk F17, lk F18, lk F19, lk F20, lk F21, lk F22, lk F23, lk F24, lk F25, lk F26, lk F27, lk F28, lk F29, lk F30, lk F31, lk F32, lk F33, fun _ => rfl, lk F35, F36, F37, F38, F39, F40, F41, F42, F43, F44, F45⟩
    · simp only [List.getElem?_toArray, List.getElem?_cons_zero, List.getElem?_cons_succ, Option.some.injEq] at ho
      subst ho
      obtain rfl := F18 (hd ⟨18, .data⟩ (by simp) rfl)
      obtain rfl := F34 (hd ⟨34, .data⟩ (by simp) rfl)
      refine wpOp_step rfl (fun K hK => ?_)
      go_simp
      refine hK _ _ ?_
      exact ⟨_, _, _, _, _, _, _, _, _, _, _, _, _, _, _, _, _, _, _, _, _, _, _, _, _, _, _, _, _, _, _, _, _, _, _, _, rfl, lk F0, lk F1, lk F2, lk F3, lk F4, lk F5, lk F6, lk F7, lk F8, lk F9, lk F10, lk F11, lk F12, lk F13, lk F14, lk F15, lk F16, lk F17, lk F18, lk F19, lk F20, lk F21, lk F22, lk F23, lk F24, lk F25, lk F26, lk F27, lk F28, lk F29, lk F30, lk F31, lk F32, lk F33, lk F34, fun _ => rfl, F36, F37, F38, F39, F40, F41, F42, F43, F44, F45⟩
  · intro listed A w hall hI
    unfold KsI at hI
    obtain ⟨s53, hI⟩ := hI
    obtain ⟨s54, hI⟩ := hI
    obtain ⟨s55, hI⟩ := hI
    obtain ⟨s56, hI⟩ := hI
    obtain ⟨s57, hI⟩ := hI
    obtain ⟨s58, hI⟩ := hI
    obtain ⟨s59, hI⟩ := hI
    obtain ⟨s60, hI⟩ := hI
    obtain ⟨s61, hI⟩ := hI
    obtain ⟨s62, hI⟩ := hI
    obtain ⟨s63, hI⟩ := hI
    obtain ⟨s64, hI⟩ := hI
    obtain ⟨s65, hI⟩ := hI
    obtain ⟨s66, hI⟩ := hI
    obtain ⟨s67, hI⟩ := hI
    obtain ⟨s68, hI⟩ := hI
    obtain ⟨s69, hI⟩ := hI
    obtain ⟨s70, hI⟩ := hI
    obtain ⟨s71, hI⟩ := hI
    obtain ⟨s72, hI⟩ := hI
    obtain ⟨s73, hI⟩ := hI
    obtain ⟨s74, hI⟩ := hI
    obtain ⟨s75, hI⟩ := hI
    obtain ⟨s76, hI⟩ := hI
    obtain ⟨s77, hI⟩ := hI
    obtain ⟨s78, hI⟩ := hI
    obtain ⟨s79, hI⟩ := hI
    obtain ⟨s80, hI⟩ := hI
    obtain ⟨s81, hI⟩ := hI
    obtain ⟨s82, hI⟩ := hI
    obtain ⟨s83, hI⟩ := hI
    obtain ⟨s84, hI⟩ := hI
    obtain ⟨s85, hI⟩ := hI
    obtain ⟨s86, hI⟩ := hI
    obtain ⟨s87, hI⟩ := hI
    obtain ⟨s88, hI⟩ := hI
    obtain ⟨rfl, hI⟩ := hI
    obtain ⟨F0, hI⟩ := hI
    obtain ⟨F1, hI⟩ := hI
    obtain ⟨F2, hI⟩ := hI
    obtain ⟨F3, hI⟩ := hI
    obtain ⟨F4, hI⟩ := hI
    obtain ⟨F5, hI⟩ := hI
    obtain ⟨F6, hI⟩ := hI
    obtain ⟨F7, hI⟩ := hI
    obtain ⟨F8, hI⟩ := hI
    obtain ⟨F9, hI⟩ := hI
    obtain ⟨F10, hI⟩ := hI
    obtain ⟨F11, hI⟩ := hI
    obtain ⟨F12, hI⟩ := hI
    obtain ⟨F13, hI⟩ := hI
    obtain ⟨F14, hI⟩ := hI
    obtain ⟨F15, hI⟩ := hI
    obtain ⟨F16, hI⟩ := hI
    obtain ⟨F17, hI⟩ := hI
    obtain ⟨F18, hI⟩ := hI
    obtain ⟨F19, hI⟩ := hI
    obtain ⟨F20, hI⟩ := hI
    obtain ⟨F21, hI⟩ := hI
    obtain ⟨F22, hI⟩ := hI
    obtain ⟨F23, hI⟩ := hI
    obtain ⟨F24, hI⟩ := hI
    obtain ⟨F25, hI⟩ := hI
    obtain ⟨F26, hI⟩ := hI
    obtain ⟨F27, hI⟩ := hI
    obtain ⟨F28, hI⟩ := hI
    obtain ⟨F29, hI⟩ := hI
    obtain ⟨F30, hI⟩ := hI
    obtain ⟨F31, hI⟩ := hI
    obtain ⟨F32, hI⟩ := hI
    obtain ⟨F33, hI⟩ := hI
    obtain ⟨F34, hI⟩ := hI
    obtain ⟨F35, hI⟩ := hI
    obtain ⟨F36, hI⟩ := hI
    obtain ⟨F37, hI⟩ := hI
    obtain ⟨F38, hI⟩ := hI
    obtain ⟨F39, hI⟩ := hI
    obtain ⟨F40, hI⟩ := hI
    obtain ⟨F41, hI⟩ := hI
    obtain ⟨F42, hI⟩ := hI
    obtain ⟨F43, hI⟩ := hI
    obtain ⟨F44, hI⟩ := hI
    have F45 := hI; clear hI
    obtain rfl := F0 (hall 0 (by decide))
    obtain rfl := F1 (hall 1 (by decide))
    obtain rfl := F2 (hall 2 (by decide))
    obtain rfl := F3 (hall 3 (by decide))
    obtain rfl := F4 (hall 4 (by decide))
    obtain rfl := F5 (hall 5 (by decide))
    obtain rfl := F6 (hall 6 (by decide))
    obtain rfl := F7 (hall 7 (by decide))
    obtain rfl := F8 (hall 8 (by decide))
    obtain rfl := F9 (hall 9 (by decide))
    obtain rfl := F10 (hall 10 (by decide))
    obtain rfl := F11 (hall 11 (by decide))
    obtain rfl := F12 (hall 12 (by decide))
    obtain rfl := F13 (hall 13 (by decide))
    obtain rfl := F14 (hall 14 (by decide))
    obtain rfl := F15 (hall 15 (by decide))
    obtain rfl := F16 (hall 16 (by decide))
    obtain rfl := F17 (hall 17 (by decide))
    obtain rfl := F18 (hall 18 (by decide))
    obtain rfl := F19 (hall 19 (by decide))
    obtain rfl := F20 (hall 20 (by decide))
    obtain rfl := F21 (hall 21 (by decide))
    obtain rfl := F22 (hall 22 (by decide))
    obtain rfl := F23 (hall 23 (by decide))
    obtain rfl := F24 (hall 24 (by decide))
    obtain rfl := F25 (hall 25 (by decide))
    obtain rfl := F26 (hall 26 (by decide))
    obtain rfl := F27 (hall 27 (by decide))
    obtain rfl := F28 (hall 28 (by decide))
    obtain rfl := F29 (hall 29 (by decide))
    obtain rfl := F30 (hall 30 (by decide))
    obtain rfl := F31 (hall 31 (by decide))
    obtain rfl := F32 (hall 32 (by decide))
    obtain rfl := F33 (hall 33 (by decide))
    obtain rfl := F34 (hall 34 (by decide))
    obtain rfl := F35 (hall 35 (by decide))
    have HB := F36
    have Q0 := F37
    have Q1 := F38
    have Q2 := F39
    have Q3 := F40
    have Q4 := F41
    have Q5 := F42
    have Q6 := F43
    have Q7 := F44
    have Q8 := F45
    exact hQ _ trivial HB
end Go.Proofs.YtjpopmgnhgancaaDoor
